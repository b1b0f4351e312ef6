/- setBetween: the set between brackets. firstElement: the first element of a pattern. firstElement: a byte that stands for itself. compile: the alternatives of a pattern. compile: the walk. Check, and what a pattern's alternatives are. -/
import Derived.Test.YtljkljnfbcmjdaaGreatDoorKF
import Derived.Test.YtljkljnfbcmjdaaGreatDoorShelf
import Derived.Deep.RegionWith
import Derived.Deep.RegionLaw
namespace Go.Proofs.YtljkljnfbcmjdaaGreatDoor.Gl
open Go.RowKit
theorem memB_single (S : UInt8 → Bool) (a : UInt8) (t : List UInt8) (h : t.length < 2 ∨ t[0]? ≠ some 45) : memB S (a :: t) = memB (fun x => S x || rangeB a a x) t := by
 match t, h with
 | [], _ => rfl
 | [b], _ => rfl
 | b :: c :: u, h =>
  have hb : b ≠ 45 := by
   rcases h with h | h
   ·simp at h
    omega
   ·simpa using h
  conv => lhs; rw [memB, if_neg hb]
theorem memB_range (S : UInt8 → Bool) (a c : UInt8) (t : List UInt8) : memB S (a :: 45 :: c :: t) = if c.toNat < a.toNat then none else memB (fun x => S x || rangeB a c x) t := by
 conv => lhs; rw [memB, if_pos rfl]
def setRes : Option (UInt8 → Bool) → Value
 | some S => .tuple #[.agg (setV S), .bool true]
 | none => .tuple #[.agg (setV fun _ => false), .bool false]
theorem setV_sizes (S T : UInt8 → Bool) : (setV S).size = (setV T).size := by rw [setV_size, setV_size]
theorem zero4 : Array.replicate 4 (Value.int .u64 0) = setV fun _ => false := by
 unfold setV
 rw [wd_none, wd_none, wd_none, wd_none]
 rfl
/-- The results (an array in its cell, a bool). -/
theorem results_set {w : World} {tmps : Array Value} {g : Nat} {R : UInt8 → Bool} {ok : Bool} {fr : Nat × Nat} (hp : tmps.getD 2 undef = .pointer (some ⟨g, 0, none⟩)) (hq : tmps.getD 3 undef = .bool ok) (hg : w.heap[g]? = some (.cells (setV R) 129 fr)) :
  (results Tryz.f119 tmps).run Tryz.prog w = .ok (.tuple #[.agg (setV R), .bool ok]) w := by
 have hi : (Tryz.prog.info? 129).map (·.size) = some (setV R).size := (zero_of_info (P := Tryz.prog) info61).2
 have hl := run_loadVar_row (P := Tryz.prog) w g 129 129 (setV R) fr _ hg Tryz.underlying129 rfl hi
 have hp' : tmps[2]?.getD undef = .pointer (some ⟨g, 0, none⟩) := by simpa using hp
 have hq' : tmps[3]?.getD undef = .bool ok := by simpa using hq
 simp [results, hp', hq', asAddr, hl, Result.andThen]
theorem setB_cut (l : List UInt8) : setB l = if Lib.trimPrefix l [33] = [] then none else (memB (fun _ => false) (Lib.trimPrefix l [33])).map fun S => if Lib.hasPrefix l [33] then (fun x => isText x && !S x) else S := by
 unfold Lib.trimPrefix
 cases l with
 | nil => rfl
 | cons c r =>
  have hp : Lib.hasPrefix (c :: r) [33] = (c == 33) := by
   show ([33] : List UInt8).isPrefixOf (c :: r) = _
   simp only [List.isPrefixOf, Bool.and_true]
   rw [Bool.beq_comm]
  rw [hp, setB]
  by_cases h : c = 33
  ·subst h
   simp only [beq_self_eq_true, if_true, List.length_cons, List.length_nil, List.drop_succ_cons, List.drop_zero]
  ·have : (c == 33) = false := beq_eq_false_iff_ne.2 h
   rw [this]
   simp only [if_neg h, Bool.false_eq_true, if_false]
   rw [if_neg (by simp)]
   simp
theorem drop_data (s : ByteArray) (k : Nat) : (s.extract k s.size).data.toList = s.data.toList.drop k := by
 have := Lib.extract_toList s k s.size
 rw [Lib.toList_data] at this
 rw [this, Lib.size_eq]
 exact List.take_of_length_le (by rw [List.length_drop]; exact Nat.le_refl _)
section
variable (w : World) (o1 o2 : Obj)
theorem box2_0 : ((w.alloc o1).alloc o2).heap[w.heap.size]? = some o1 := by
 rw [Below.heap_alloc _ _ _ (by simp)]
 exact heap_alloc_last w o1
theorem box2_1 : ((w.alloc o1).alloc o2).heap[w.heap.size + 1]? = some o2 := by
 have := heap_alloc_last (w.alloc o1) o2
 rwa [show (w.alloc o1).heap.size = w.heap.size + 1 from by simp] at this
theorem box2_below : Below w.heap.size w ((w.alloc o1).alloc o2) := ((Below.refl _ w).alloc (Nat.le_refl _) _).alloc (by simp) _
end
def strSize : Value → Nat
 | .string s => s.size
 | _ => 0
theorem store4 {w : World} {b : Nat} {S R : UInt8 → Bool} (h : w.heap[b]? = some (.cells (setV S) 129 (0, 0))) : (storeCells ⟨b, 0, none⟩ (setV R).toList).run Tryz.prog w = .ok () (w.setRow b (setV R)) := by
 have := run_storeCells_from (P := Tryz.prog) b 129 (setV R).toList 0 (setV S) w h (by rw [Array.length_toList, setV_size, setV_size]) (fun v hv => (Array.all_eq_true_iff_forall_mem.1 (setV_one R)) v (by simpa using hv))
 rw [this]
 simp
structure SetW (w : World) (R : List UInt8) (tgt : Option (UInt8 → Bool)) (wx : World) : Prop where
 ex : ∃ S, wx.heap[w.heap.size + 1]? = some (.cells (setV S) 129 (0, 0)) ∧ memB S R = tgt
 res : wx.heap[w.heap.size]? = some (.cells (setV fun _ => false) 129 (0, 0))
 below : Below w.heap.size w wx
 size : wx.heap.size = w.heap.size + 2
theorem SetW.add {w wx w' : World} {R R' : List UInt8} {tgt : Option (UInt8 → Bool)} (h : SetW w R tgt wx) {S S' : UInt8 → Bool} (hS' : AddPost (w.heap.size + 1) S' wx (.returned (.tuple #[])) w') (_hS : wx.heap[w.heap.size + 1]? = some (.cells (setV S) 129 (0, 0))) (hm : memB S' R' = tgt) : SetW w R' tgt w' := by
 obtain ⟨_, h1, h2, h3⟩ := hS'
 refine ⟨⟨S', h1, hm⟩, ?_, ?_, ?_⟩
 ·rw [h2.block _ (Nat.lt_succ_self _)]; exact h.res
 ·exact h.below.trans (h2.mono (Nat.le_succ _))
 ·rw [h3]; exact h.size
set_option maxHeartbeats 400000 in
set_option maxRecDepth 100000 in
theorem setBetween_any (s : ByteArray) (w : World) (hs : s.size ≤ 4096) : Calls Tryz.prog 119 #[.string s] w (Bel (setRes (setB s.data.toList)) w) := by
 have hv := (zero_of_info (P := Tryz.prog) info61).1
 have hi := (zero_of_info (P := Tryz.prog) info61).2
 have hcut := fun W => Tryz.strings_CutPrefix s ⟨#[33]⟩ W
 have hb := setB_cut s.data.toList
 have hle : (Lib.trimPrefix s.data.toList [33]).length ≤ 4096 := by
  rw [Lib.size_eq] at hs
  unfold Lib.trimPrefix
  split
  ·rw [List.length_drop]; omega
  ·exact hs
 rw [hb]
 simp only at hcut
 clear hb
 generalize Lib.trimPrefix s.data.toList [33] = M at *
 generalize Lib.hasPrefix s.data.toList [33] = neg at *
 obtain ⟨m, hm⟩ : ∃ m : ByteArray, (⟨M.toArray⟩ : ByteArray) = m := ⟨_, rfl⟩
 have hmd : m.data.toList = M := by rw [← hm]
 rw [hm] at hcut
 have Hcut := Lib.hid hcut
 clear hcut hm hs
 by_cases hM : M = []
 ·have he := empty_form (s := m) (by rw [hmd, hM])
  rw [if_pos hM]
  have Hv := Lib.hid hM
  clear hM hmd
  go_enter Tryz.func119, Tryz.ntmps119
  go_wp2_with fail
  refine (Hcut.out _).mono ?_
  rintro e W ⟨rfl, rfl⟩
  go_wp2
  exact bodyPost_ret (results_set rfl rfl (by rw [← zero4]; exact heap_alloc_last w _)) rfl ⟨rfl, (Below.refl _ _).alloc (Nat.le_refl _) _⟩
 ·have he := nonempty_form (s := m) (by rw [hmd]; exact hM)
  rw [if_neg hM]
  go_enter Tryz.func119, Tryz.ntmps119
  go_wp2_with fail
  refine (Hcut.out _).mono ?_
  rintro e W ⟨rfl, rfl⟩
  go_wp2
  go_loopw [4] (fun s4 wx => ∃ r : ByteArray, s4 = .string r ∧ r.size ≤ 4096 ∧ SetW w r.data.toList (memB (fun _ => false) M) wx) (fun s4 _ => strSize s4)
  case atStart => exact ⟨m, rfl, by rw [Lib.size_eq, hmd]; exact hle, ⟨⟨_, by rw [← zero4]; exact box2_1 w _ _, by rw [hmd]⟩, by rw [← zero4]; exact box2_0 w _ _, box2_below w _ _, by simp⟩⟩
  case round =>
   obtain ⟨r, rfl, hrs, hset⟩ := hrel
   have Hset := Lib.hid hset
   clear hset
   by_cases hr : r.size = 0
   ·have hrd : r.data.toList = [] := List.length_eq_zero_iff.1 (by rw [← Lib.size_eq]; exact hr)
    have her := empty_form hrd
    obtain ⟨⟨S, hS, hmem⟩, hres, hbel, hsize⟩ := Hset.out
    rw [hrd] at hmem
    have hmem' : memB (fun _ => false) M = some S := hmem.symm
    have Hm := Lib.hid hmem'
    have Hbel := Lib.hid hbel
    clear hmem hmem' hbel hrd
    have hi' : (Tryz.prog.info? 129).map (·.size) = some (setV S).size := hi
    cases neg with
    | false =>
     go_wp2_with (first
      | (refine wpList_load_row rfl 129 _ rfl (w.heap.size + 1) rfl 129 _ _ _ hS Tryz.underlying129 rfl hi' ?_)
      | (refine wpList_store_row rfl 129 _ _ rfl w.heap.size (setV S) rfl rfl 129 _ hres hi' (setV_sizes _ _) (setV_one S) ?_))
     exact bodyPost_ret (results_set rfl rfl (setRow_heap wr w.heap.size _ (setV S) 129 _ hres)) rfl ⟨by rw [Hm.out]; rfl, below_setRow Hbel.out (Nat.le_refl _) _⟩
    | true =>
     have c0 := setAt4_of hS 0 (by omega)
     have c1 := setAt4_of hS 1 (by omega)
     have c2 := setAt4_of hS 2 (by omega)
     have c3 := setAt4_of hS 3 (by omega)
     rw [Nat.zero_add] at c0 c1 c2 c3
     have hbl : w.heap.size + 1 < wr.heap.size := by omega
     have HS := Lib.hid hS
     have Hres := Lib.hid hres
     have Hn := Lib.hid (without_any isText S)
     have hfn : (fun x => isText x && !S x) = (fun x => isText x && !S x) := rfl
     obtain ⟨R, hR⟩ : ∃ R : UInt8 → Bool, (fun x => isText x && !S x) = R := ⟨_, rfl⟩
     rw [hR] at Hn
     have Hst := Lib.hid (fun (W : World) (h : W.heap[w.heap.size + 1]? = some (.cells (setV S) 129 (0, 0))) => store4 (R := R) h)
     clear hS hres hfn
     go_wp2
     go_region_with (first
      | (go_at_call 118; refine (textBytes_any _).mono ?_; rintro ed W1 ⟨rfl, hbT⟩; have q0 := (hbT.cell (p := ⟨w.heap.size + 1, 0, none⟩) hbl).trans c0; have q1 := (hbT.cell (p := ⟨w.heap.size + 1, 1, none⟩) hbl).trans c1; have q2 := (hbT.cell (p := ⟨w.heap.size + 1, 2, none⟩) hbl).trans c2; have q3 := (hbT.cell (p := ⟨w.heap.size + 1, 3, none⟩) hbl).trans c3)
      | (go_at_call 130; refine (Hn.out _).mono ?_; rintro ed W2 ⟨rfl, hbW⟩; have hbb := hbT.trans (hbW.mono hbT.size); have hrow := (hbb.block (w.heap.size + 1) hbl).trans HS.out; have hst := Hst.out _ hrow; have hrs := (hbb.block w.heap.size (Nat.lt_of_succ_lt hbl)).trans Hres.out))
     all_goals
      have h6 := setRow_heap W2 (w.heap.size + 1) _ (setV R) 129 _ hrow
      have hbs : Below (w.heap.size + 1) W2 (W2.setRow (w.heap.size + 1) (setV R)) := below_setRow (Below.refl _ _) (Nat.le_refl _) _
      have h2 := (hbs.block w.heap.size (Nat.lt_succ_self _)).trans hrs
      have Hbz := Lib.hid ((Hbel.out.drew.trans (hbb.mono (B' := w.heap.size) (by show w.heap.size ≤ wr.heap.size; omega))).trans (hbs.mono (Nat.le_succ _)))
      clear hst hrow hrs hbs hbb hbT hbW q0 q1 q2 q3
      generalize W2.setRow (w.heap.size + 1) (setV R) = W3 at *
      go_wp2_with (first
       | (refine wpList_load_row rfl 129 _ rfl (w.heap.size + 1) rfl 129 _ _ _ h6 Tryz.underlying129 rfl (show (Tryz.prog.info? 129).map (·.size) = some (setV R).size from hi) ?_)
       | (refine wpList_store_row rfl 129 _ _ rfl w.heap.size (setV R) rfl rfl 129 _ h2 (show (Tryz.prog.info? 129).map (·.size) = some (setV R).size from hi) (setV_sizes _ _) (setV_one R) ?_))
      exact bodyPost_ret (results_set rfl rfl (setRow_heap W3 w.heap.size _ (setV R) 129 _ h2)) rfl ⟨by rw [Hm.out, ← hR]; rfl, below_setRow Hbz.out (Nat.le_refl _) _⟩
   ·have hpos : 0 < r.size := by omega
    have hposi : (0 : Int) < (r.size : Int) := by omega
    have her := nonempty_form (s := r) (fun h => hr (by rw [Lib.size_eq, h]; rfl))
    obtain ⟨x, hx⟩ : ∃ x : UInt8, r[0]'hpos = x := ⟨_, rfl⟩
    have hx0 : r.data.toList[0]? = some x := by rw [← hx]; exact Lib.data_getElem? r 0 hpos
    have hcons : r.data.toList = x :: r.data.toList.drop 1 := by
     have := drop_at8 hx0
     rwa [List.drop_zero] at this
    have hrd := drop_data r
    have hrst : ∀ k, 0 < k → k ≤ r.size → (r.extract k r.size).size < r.size := fun k h1 h2 => by
     rw [Lib.size_eq, hrd, List.length_drop, ← Lib.size_eq]; omega
    have Hrd := Lib.hid hrd
    have Hrst := Lib.hid hrst
    have Hcons := Lib.hid hcons
    clear hrd hrst hcons hx0
    have Hadd := Lib.hid (fun S a b W h => add_any (w.heap.size + 1) S a b W h)
    have hxi : (x.toNat : Int) < 256 := by have := UInt8.toNat_lt x; omega
    by_cases h2 : r.size ≤ 2
    ·have h2i : ¬ (r.size : Int) > 2 := by omega
     have hlt2 : (r.data.toList.drop 1).length < 2 := by rw [List.length_drop, ← Lib.size_eq]; omega
     have Hlt2 := Lib.hid hlt2
     clear hlt2
     go_wp2
     go_quiet (fail)
     go_wp2_with fail
     obtain ⟨⟨S, hS, hmem⟩, hres, hbel, hsize⟩ := Hset.out
     have hS' : (wr.drewN nq).heap[w.heap.size + 1]? = some (.cells (setV S) 129 (0, 0)) := hS
     refine (Hadd.out S x x _ hS').mono ?_
     rintro ed W2 ⟨rfl, h1, h2, h3⟩
     have Hset2 := Lib.hid (show SetW w (r.data.toList.drop 1) (memB (fun _ => false) M) W2 from by
      refine ⟨⟨_, h1, ?_⟩, ?_, ?_, ?_⟩
      ·rw [← hmem]
       conv => rhs; rw [Hcons.out]
       rw [memB_single S x _ (Or.inl Hlt2.out)]
      ·rw [h2.block _ (Nat.lt_succ_self _)]; exact hres
      ·exact (drewN_below hbel nq).trans (h2.mono (Nat.le_succ _))
      ·rw [h3]; exact hsize)
     have h1i : (1 : Int) ≤ (r.size : Int) := by omega
     clear hS hmem hres hbel hsize h1 h2 h3 hS'
     go_wp2
     exact ⟨⟨r.extract 1 r.size, rfl, Nat.le_trans (Nat.le_of_lt (Hrst.out 1 (by omega) (by omega))) hrs, by rw [Hrd.out]; exact Hset2.out⟩, Hrst.out 1 (by omega) (by omega)⟩
    ·have h2i : (r.size : Int) > 2 := by omega
     have h1s : 1 < r.size := by omega
     have h2s : 2 < r.size := by omega
     have h1si : (1 : Int) < (r.size : Int) := by omega
     have h2si : (2 : Int) < (r.size : Int) := by omega
     obtain ⟨y, hy⟩ : ∃ y : UInt8, r[1]'h1s = y := ⟨_, rfl⟩
     obtain ⟨z, hz⟩ : ∃ z : UInt8, r[2]'h2s = z := ⟨_, rfl⟩
     have hy1 : r.data.toList[1]? = some y := by rw [← hy]; exact Lib.data_getElem? r 1 h1s
     have hz2 : r.data.toList[2]? = some z := by rw [← hz]; exact Lib.data_getElem? r 2 h2s
     have hzi : (z.toNat : Int) < 256 := by have := UInt8.toNat_lt z; omega
     by_cases h45 : y = 45
     ·subst h45
      have hc3 : r.data.toList = x :: 45 :: z :: r.data.toList.drop 3 := by
       rw [← drop_at8 hz2, ← drop_at8 hy1]; exact Hcons.out
      have Hc3 := Lib.hid hc3
      clear hc3 hy1 hz2
      by_cases hxz : (x.toNat : Int) > (z.toNat : Int)
      ·have hv : memB (fun _ => false) M = none := by
        obtain ⟨⟨S, hS, hmem⟩, _⟩ := Hset.out
        rw [← hmem, Hc3.out, memB_range, if_pos (by omega)]
       have Hv := Lib.hid hv
       have hres := Hset.out.res
       have Hbel := Lib.hid Hset.out.below
       clear hv
       go_wp2
       go_quiet (fail)
       have hres' : (wr.drewN nq).heap[w.heap.size]? = some (.cells (setV fun _ => false) 129 (0, 0)) := hres
       have Hb2 := Lib.hid (drewN_below Hbel.out nq)
       clear hres
       generalize wr.drewN nq = W3 at *
       go_wp2_with (refine wpList_store_row rfl 129 _ _ rfl w.heap.size (Array.replicate 4 (.int .u64 0)) rfl rfl 129 _ hres' (by rw [Array.size_replicate]; exact hi) (sizes4 _).symm (by rw [zero4]; exact setV_one _) ?_)
       all_goals exact bodyPost_ret (results_set (R := fun _ => false) rfl rfl (by rw [← zero4]; exact setRow_heap W3 w.heap.size _ (Array.replicate 4 (.int .u64 0)) 129 _ hres')) rfl ⟨by rw [Hv.out]; rfl, below_setRow Hb2.out (Nat.le_refl _) _⟩
      ·go_wp2
       go_quiet (fail)
       go_wp2_with fail
       obtain ⟨⟨S, hS, hmem⟩, hres, hbel, hsize⟩ := Hset.out
       have hS' : (wr.drewN nq).heap[w.heap.size + 1]? = some (.cells (setV S) 129 (0, 0)) := hS
       refine (Hadd.out S x z _ hS').mono ?_
       rintro ed W2 ⟨rfl, h1, h2, h3⟩
       have Hset2 := Lib.hid (show SetW w (r.data.toList.drop 3) (memB (fun _ => false) M) W2 from by
        refine ⟨⟨_, h1, ?_⟩, ?_, ?_, ?_⟩
        ·rw [← hmem]
         conv => rhs; rw [Hc3.out]
         rw [memB_range, if_neg (by omega)]
        ·rw [h2.block _ (Nat.lt_succ_self _)]; exact hres
        ·exact (drewN_below hbel nq).trans (h2.mono (Nat.le_succ _))
        ·rw [h3]; exact hsize)
       have h3i : (3 : Int) ≤ (r.size : Int) := by omega
       clear hS hmem hres hbel hsize h1 h2 h3 hS'
       go_wp2
       exact ⟨⟨r.extract 3 r.size, rfl, Nat.le_trans (Nat.le_of_lt (Hrst.out 3 (by omega) (by omega))) hrs, by rw [Hrd.out]; exact Hset2.out⟩, Hrst.out 3 (by omega) (by omega)⟩
     ·have hne : ((y.toNat : Int) == 45) = false := beq_eq_false_iff_ne.2 fun e => h45 (UInt8.toNat_inj.1 (by simpa using (by omega : y.toNat = 45)))
      have hh : (r.data.toList.drop 1)[0]? ≠ some 45 := by
       rw [List.getElem?_drop, hy1]
       simpa using h45
      have Hh := Lib.hid hh
      clear hh hy1 hz2
      go_wp2
      go_quiet (fail)
      go_wp2_with fail
      obtain ⟨⟨S, hS, hmem⟩, hres, hbel, hsize⟩ := Hset.out
      have hS' : (wr.drewN nq).heap[w.heap.size + 1]? = some (.cells (setV S) 129 (0, 0)) := hS
      refine (Hadd.out S x x _ hS').mono ?_
      rintro ed W2 ⟨rfl, h1, h2, h3⟩
      have Hset2 := Lib.hid (show SetW w (r.data.toList.drop 1) (memB (fun _ => false) M) W2 from by
       refine ⟨⟨_, h1, ?_⟩, ?_, ?_, ?_⟩
       ·rw [← hmem]
        conv => rhs; rw [Hcons.out]
        rw [memB_single S x _ (Or.inr Hh.out)]
       ·rw [h2.block _ (Nat.lt_succ_self _)]; exact hres
       ·exact (drewN_below hbel nq).trans (h2.mono (Nat.le_succ _))
       ·rw [h3]; exact hsize)
      have h1i : (1 : Int) ≤ (r.size : Int) := by omega
      clear hS hmem hres hbel hsize h1 h2 h3 hS'
      go_wp2
      exact ⟨⟨r.extract 1 r.size, rfl, Nat.le_trans (Nat.le_of_lt (Hrst.out 1 (by omega) (by omega))) hrs, by rw [Hrd.out]; exact Hset2.out⟩, Hrst.out 1 (by omega) (by omega)⟩
end Go.Proofs.YtljkljnfbcmjdaaGreatDoor.Gl
namespace Go.Proofs.YtljkljnfbcmjdaaGreatDoor.Gl
open Go.RowKit
/-- The six cells of an element. -/
def elV (e : El) : Array Value := #[.int .u64 (wd e.set 0), .int .u64 (wd e.set 1), .int .u64 (wd e.set 2), .int .u64 (wd e.set 3), .bool e.star, .bool e.self]
theorem elV_size (e : El) : (elV e).size = 6 := rfl
def fstRes : Option (El × Nat) → Value
 | some (e, k) => .tuple #[.agg (elV e), .int .i64 ((k : Int) + 1)]
 | none => .tuple #[.agg (elV ⟨false, false, fun _ => false⟩), .int .i64 0]
theorem info63 : (Tryz.prog.info? 131).map (fun i => (i.zero, i.size)) = some (some (.agg (#[.int .u64 0, .int .u64 0, .int .u64 0, .int .u64 0, .bool false, .bool false])), 6) := by kernel_rfl
theorem results_fst {w : World} {tmps : Array Value} {g : Nat} {e : El} {k : Int} {fr : Nat × Nat} (hp : tmps.getD 2 undef = .pointer (some ⟨g, 0, none⟩)) (hq : tmps.getD 3 undef = .int .i64 k) (hg : w.heap[g]? = some (.cells (elV e) 131 fr)) :
  (results Tryz.f104 tmps).run Tryz.prog w = .ok (.tuple #[.agg (elV e), .int .i64 k]) w := by
 have hi : (Tryz.prog.info? 131).map (·.size) = some (elV e).size := (zero_of_info (P := Tryz.prog) info63).2
 have hl := run_loadVar_row (P := Tryz.prog) w g 131 131 (elV e) fr _ hg Tryz.underlying131 rfl hi
 have hp' : tmps[2]?.getD undef = .pointer (some ⟨g, 0, none⟩) := by simpa using hp
 have hq' : tmps[3]?.getD undef = .int .i64 k := by simpa using hq
 simp [results, hp', hq', asAddr, hl, Result.andThen]
theorem byte_ne {x : UInt8} {k : Nat} (hk : k < 256) (h : x ≠ UInt8.ofNat k) : ((x.toNat : Int) == (k : Int)) = false := by
 rw [beq_eq_false_iff_ne]
 intro e
 apply h
 apply UInt8.toNat_inj.1
 simp
 omega
theorem elV_zero : (#[.int .u64 0, .int .u64 0, .int .u64 0, .int .u64 0, .bool false, .bool false] : Array Value) = elV ⟨false, false, fun _ => false⟩ := by
 unfold elV
 simp only [wd_none]
 rfl
set_option maxHeartbeats 400000 in
set_option maxRecDepth 100000 in
theorem first_text (s : ByteArray) (c : UInt8) (st : Bool) (w : World) (hs : s.size ≤ 4096) (hpos : 0 < s.size) (hc : s[0] = c) (hcs : (c = 42 ∧ st = true) ∨ (c = 63 ∧ st = false)) :
  Calls Tryz.prog 104 #[.string s] w (Bel (.tuple #[.agg (elV ⟨st, false, isText⟩), .int .i64 1]) w) := by
 have hv := (zero_of_info (P := Tryz.prog) info63).1
 have hi := (zero_of_info (P := Tryz.prog) info63).2
 have ht := textBytes_any
 obtain ⟨E, hE⟩ : ∃ E : El, (⟨st, false, isText⟩ : El) = E := ⟨_, rfl⟩
 have hVE : elV E = #[.int .u64 (wd isText 0), .int .u64 (wd isText 1), .int .u64 (wd isText 2), .int .u64 (wd isText 3), .bool st, .bool false] := by rw [← hE]; rfl
 rw [hE]
 unfold setV at ht
 generalize ((wd isText 0 : Nat) : Int) = a0 at *
 generalize ((wd isText 1 : Nat) : Int) = a1 at *
 generalize ((wd isText 2 : Nat) : Int) = a2 at *
 generalize ((wd isText 3 : Nat) : Int) = a3 at *
 have Ht := Lib.hid ht
 have hposi : (0 : Int) < (s.size : Int) := by omega
 clear ht hE
 rcases hcs with ⟨rfl, rfl⟩ | ⟨rfl, rfl⟩
 ·go_enter Tryz.func104, Tryz.ntmps104
  go_wp2_with fail
  refine (Ht.out _).mono ?_
  rintro ed W1 ⟨rfl, hb⟩
  have h0 := heap_new_below hb
  have hbl := below_new hb
  go_wp2_with (refine wpList_store_row rfl 131 _ _ rfl w.heap.size #[.int .u64 a0, .int .u64 a1, .int .u64 a2, .int .u64 a3, .bool true, .bool false] rfl rfl 131 _ h0 hi rfl (by simp [Value.oneCell']) ?_)
  exact bodyPost_ret (results_fst (e := E) rfl rfl (by rw [hVE]; exact setRow_heap W1 w.heap.size _ _ 131 _ h0)) rfl ⟨rfl, below_setRow hbl (Nat.le_refl _) _⟩
 ·go_enter Tryz.func104, Tryz.ntmps104
  go_wp2_with fail
  refine (Ht.out _).mono ?_
  rintro ed W1 ⟨rfl, hb⟩
  have h0 := heap_new_below hb
  have hbl := below_new hb
  go_wp2_with (refine wpList_store_row rfl 131 _ _ rfl w.heap.size #[.int .u64 a0, .int .u64 a1, .int .u64 a2, .int .u64 a3, .bool false, .bool false] rfl rfl 131 _ h0 hi rfl (by simp [Value.oneCell']) ?_)
  exact bodyPost_ret (results_fst (e := E) rfl rfl (by rw [hVE]; exact setRow_heap W1 w.heap.size _ _ 131 _ h0)) rfl ⟨rfl, below_setRow hbl (Nat.le_refl _) _⟩
/-- Where the first "]" stands behind a "[". -/
theorem index_open {s : ByteArray} {r : List UInt8} (h : s.data.toList = 91 :: r) : Lib.indexByte s.data.toList 93 = if r.contains 93 then ((r.idxOf 93 : Nat) : Int) + 1 else -1 := by
 rw [h]
 have key : ∀ l : List UInt8, Lib.indexByte l 93 = if l.contains 93 then ((l.idxOf 93 : Nat) : Int) else -1 := by
  intro l
  induction l with
  | nil => rfl
  | cons b l ih =>
   rw [Lib.indexByte, ih]
   by_cases hb : b = 93
   ·subst hb; simp
   ·have h1 : (b == 93) = false := beq_eq_false_iff_ne.2 hb
    have h2 : ((93 : UInt8) == b) = false := beq_eq_false_iff_ne.2 fun e => hb e.symm
    rw [List.contains_cons, h1, h2, Bool.false_or, List.idxOf_cons, h1]
    simp only [Bool.false_eq_true, if_false, cond_false]
    by_cases hc : l.contains 93 = true
    ·rw [if_pos hc, if_pos hc, if_neg (by simp <;> omega)]
     simp
    ·rw [if_neg hc, if_neg hc]; rfl
 rw [key, List.contains_cons, List.idxOf_cons]
 rw [show ((93 : UInt8) == 91) = false from rfl, show ((91 : UInt8) == 93) = false from rfl, Bool.false_or]
 simp only [cond_false]
 split <;> simp
theorem extract_mid (s : ByteArray) (c : UInt8) (r : List UInt8) (n : Nat) (h : s.data.toList = c :: r) : (s.extract 1 (n + 1)).data.toList = r.take n := by
 have := Lib.extract_toList s 1 (n + 1)
 rw [Lib.toList_data] at this
 rw [this, h]
 simp
set_option maxHeartbeats 400000 in
set_option maxRecDepth 100000 in
theorem first_set (s : ByteArray) (r : List UInt8) (w : World) (hs : s.size ≤ 4096) (hpos : 0 < s.size) (hc : s[0] = 91) (hsr : s.data.toList = 91 :: r) :
  Calls Tryz.prog 104 #[.string s] w (Bel (fstRes (firstEl 91 r)) w) := by
 have hv := (zero_of_info (P := Tryz.prog) info63).1
 have hi := (zero_of_info (P := Tryz.prog) info63).2
 have hv1 := (zero_of_info (P := Tryz.prog) info61).1
 have hi1 := (zero_of_info (P := Tryz.prog) info61).2
 have hposi : (0 : Int) < (s.size : Int) := by omega
 have hix := fun W => Tryz.strings_IndexByte s 93 W
 rw [show ((93 : Int).toNat.toUInt8) = (93 : UInt8) from rfl, index_open hsr] at hix
 have hfe : firstEl 91 r = if r.contains 93 then (setB (r.take (r.idxOf 93))).map fun S => (⟨false, false, S⟩, r.idxOf 93 + 1) else none := rfl
 rw [hfe]
 have hsz : s.size = r.length + 1 := by rw [Lib.size_eq, hsr]; rfl
 by_cases hr : r.contains 93 = true
 ·rw [if_pos hr] at hix ⊢
  have hidx : r.idxOf 93 < r.length := List.idxOf_lt_length_iff.2 (by simpa using hr)
  have hmid := extract_mid s 91 r (r.idxOf 93) hsr
  generalize r.idxOf 93 = n at *
  have hset := fun W h => setBetween_any (s.extract 1 (n + 1)) W h
  rw [hmid] at hset
  obtain ⟨m, hm⟩ : ∃ m, s.extract 1 (n + 1) = m := ⟨_, rfl⟩
  have hml : m.size ≤ 4096 := by
   rw [← hm, Lib.size_eq, hmid, List.length_take]; omega
  have hni : (n : Int) + 1 < (s.size : Int) := by omega
  rw [hm] at hset
  have Hset := Lib.hid (fun W => hset W hml)
  have Hix := Lib.hid hix
  clear hset hix hmid hfe hr hml
  cases hsb : setB (r.take n) with
  | none =>
   rw [hsb] at Hset
   go_enter Tryz.func104, Tryz.ntmps104
   go_wp2_with fail
   refine (Hix.out _).mono ?_
   rintro ed W1 ⟨rfl, rfl⟩
   go_wp2_with fail
   refine (Hset.out _).mono ?_
   rintro ed W1 ⟨rfl, hb⟩
   have h0 := heap_new_below hb
   have hbl := below_new hb
   clear hb
   simp only [setRes, ← zero4]
   have h0a : ∀ o, (W1.alloc o).heap[w.heap.size]? = _ := fun o => (Below.heap_alloc W1 o w.heap.size (Array.getElem?_eq_some_iff.1 h0).1).trans h0
   have hba : ∀ o, Below w.heap.size w (W1.alloc o) := fun o => hbl.alloc hbl.size o
   have H0a := Lib.hid h0a
   have Hba := Lib.hid hba
   clear h0 hbl h0a hba
   go_wp2_with (refine wpList_store_row rfl 131 _ _ rfl w.heap.size #[.int .u64 0, .int .u64 0, .int .u64 0, .int .u64 0, .bool false, .bool false] rfl rfl 131 _ (H0a.out _) hi rfl (by simp [Value.oneCell']) ?_)
   exact bodyPost_ret (results_fst (e := ⟨false, false, fun _ => false⟩) rfl rfl (by rw [← elV_zero]; exact setRow_heap _ w.heap.size _ _ 131 _ (H0a.out _))) rfl ⟨rfl, below_setRow (Hba.out _) (Nat.le_refl _) _⟩
  | some S =>
   rw [hsb] at Hset
   have hVE : elV ⟨false, false, S⟩ = #[.int .u64 (wd S 0), .int .u64 (wd S 1), .int .u64 (wd S 2), .int .u64 (wd S 3), .bool false, .bool false] := rfl
   obtain ⟨E, hE⟩ : ∃ E : El, (⟨false, false, S⟩ : El) = E := ⟨_, rfl⟩
   simp only [Option.map_some]
   rw [hE] at hVE ⊢
   have HVE := Lib.hid hVE
   clear hVE hE
   go_enter Tryz.func104, Tryz.ntmps104
   go_wp2_with fail
   refine (Hix.out _).mono ?_
   rintro ed W1 ⟨rfl, rfl⟩
   go_wp2_with fail
   refine (Hset.out _).mono ?_
   rintro ed W1 ⟨rfl, hb⟩
   have h0 := heap_new_below hb
   have hbl := below_new hb
   simp only [setRes, setV]
   have hVE := HVE.out
   generalize ((wd S 0 : Nat) : Int) = a0 at *
   generalize ((wd S 1 : Nat) : Int) = a1 at *
   generalize ((wd S 2 : Nat) : Int) = a2 at *
   generalize ((wd S 3 : Nat) : Int) = a3 at *
   have HVE := Lib.hid hVE
   have h0a : ∀ o, (W1.alloc o).heap[w.heap.size]? = _ := fun o => (Below.heap_alloc W1 o w.heap.size (Array.getElem?_eq_some_iff.1 h0).1).trans h0
   have hba : ∀ o, Below w.heap.size w (W1.alloc o) := fun o => hbl.alloc hbl.size o
   have H0a := Lib.hid h0a
   have Hba := Lib.hid hba
   clear hb hVE h0 hbl h0a hba
   go_wp2_with (refine wpList_store_row rfl 131 _ _ rfl w.heap.size #[.int .u64 a0, .int .u64 a1, .int .u64 a2, .int .u64 a3, .bool false, .bool false] rfl rfl 131 _ (H0a.out _) hi rfl (by simp [Value.oneCell']) ?_)
   exact bodyPost_ret (results_fst (e := E) rfl rfl (by rw [HVE.out]; exact setRow_heap _ w.heap.size _ _ 131 _ (H0a.out _))) rfl ⟨rfl, below_setRow (Hba.out _) (Nat.le_refl _) _⟩
 ·rw [if_neg hr] at hix ⊢
  have Hix := Lib.hid hix
  clear hix hfe hr hsr hsz
  go_enter Tryz.func104, Tryz.ntmps104
  go_wp2_with fail
  refine (Hix.out _).mono ?_
  rintro ed W1 ⟨rfl, rfl⟩
  go_wp2
  refine bodyPost_ret (results_fst (e := ⟨false, false, fun _ => false⟩) (fr := (0, 0)) rfl rfl ?_) rfl ⟨rfl, (Below.refl _ _).alloc (Nat.le_refl _) _⟩
  rw [← elV_zero]
  exact heap_alloc_last w _
end Go.Proofs.YtljkljnfbcmjdaaGreatDoor.Gl
namespace Go.Proofs.YtljkljnfbcmjdaaGreatDoor.Gl
open Go.RowKit
set_option maxHeartbeats 1600000 in
set_option maxRecDepth 100000 in
theorem first_self (s : ByteArray) (c : UInt8) (w : World) (hs : s.size ≤ 4096) (hpos : 0 < s.size) (hc : s[0] = c) (h42 : c ≠ 42) (h63 : c ≠ 63) (h91 : c ≠ 91) :
  Calls Tryz.prog 104 #[.string s] w (Bel (.tuple #[.agg (elV ⟨false, true, fun x => x == c⟩), .int .i64 1]) w) := by
 have hv := (zero_of_info (P := Tryz.prog) info63).1
 have hi := (zero_of_info (P := Tryz.prog) info63).2
 have hv1 := (zero_of_info (P := Tryz.prog) info61).1
 have hi1 := (zero_of_info (P := Tryz.prog) info61).2
 have n42 := byte_ne (x := c) (k := 42) (by omega) h42
 have n63 := byte_ne (x := c) (k := 63) (by omega) h63
 have n91 := byte_ne (x := c) (k := 91) (by omega) h91
 have hposi : (0 : Int) < (s.size : Int) := by omega
 have hset : (fun x => false || rangeB c c x) = fun x => x == c := by
  funext x
  unfold rangeB
  rw [Bool.false_or, Bool.eq_iff_iff]
  simp only [Bool.and_eq_true, decide_eq_true_eq, beq_iff_eq]
  constructor
  ·intro h; apply UInt8.toNat_inj.1; omega
  ·intro h; subst h; exact ⟨Nat.le_refl _, Nat.le_refl _⟩
 have hadd := fun W h => add_any (w.heap.size + 1) (fun _ => false) c c W h
 rw [hset] at hadd
 generalize hR : (fun x : UInt8 => x == c) = R at *
 have Hadd := Lib.hid hadd
 have hci : (c.toNat : Int) < 256 := by have := UInt8.toNat_lt c; omega
 clear hadd hset h42 h63 h91
 have hVE : elV ⟨false, true, R⟩ = #[.int .u64 (wd R 0), .int .u64 (wd R 1), .int .u64 (wd R 2), .int .u64 (wd R 3), .bool false, .bool true] := rfl
 obtain ⟨E, hE⟩ : ∃ E : El, (⟨false, true, R⟩ : El) = E := ⟨_, rfl⟩
 rw [hE] at hVE ⊢
 have HVE := Lib.hid hVE
 clear hVE hE
 go_enter Tryz.func104, Tryz.ntmps104
 go_wp2
 have g2 := box2_0 w (.cells #[.int .u64 0, .int .u64 0, .int .u64 0, .int .u64 0, .bool false, .bool false] 131) (.cells (Array.replicate 4 (.int .u64 0)) 129)
 have g7 := box2_1 w (.cells #[.int .u64 0, .int .u64 0, .int .u64 0, .int .u64 0, .bool false, .bool false] 131) (.cells (Array.replicate 4 (.int .u64 0)) 129)
 have gb := box2_below w (.cells #[.int .u64 0, .int .u64 0, .int .u64 0, .int .u64 0, .bool false, .bool false] 131) (.cells (Array.replicate 4 (.int .u64 0)) 129)
 generalize (w.alloc (.cells #[.int .u64 0, .int .u64 0, .int .u64 0, .int .u64 0, .bool false, .bool false] 131)).alloc (.cells (Array.replicate 4 (.int .u64 0)) 129) = W0 at *
 rw [zero4] at g7
 have G2 := Lib.hid g2
 have G7 := Lib.hid g7
 have Gb := Lib.hid gb
 clear g2 g7 gb
 have Hadd2 := Lib.hid (Hadd.out W0.drew G7.out)
 clear Hadd
 go_region_with (go_at_call 120; refine Hadd2.out.mono ?_; rintro ed W2 ⟨rfl, h1, h2, h3⟩)
 all_goals
  have h0 := (h2.block w.heap.size (Nat.lt_succ_self _)).trans G2.out
  have Hbl := Lib.hid (Gb.out.drew.trans (h2.mono (Nat.le_succ _)))
  unfold setV at h1
  have hVE := HVE.out
  clear h2 h3 hR Hadd2 HVE
  generalize ((wd R 0 : Nat) : Int) = a0 at *
  generalize ((wd R 1 : Nat) : Int) = a1 at *
  generalize ((wd R 2 : Nat) : Int) = a2 at *
  generalize ((wd R 3 : Nat) : Int) = a3 at *
  have HVE := Lib.hid hVE
  clear hVE
  go_wp2_with (first
   | (refine wpList_load_row rfl 129 _ rfl (w.heap.size + 1) rfl 129 _ _ _ h1 Tryz.underlying129 rfl hi1 ?_)
   | (refine wpList_store_row rfl 131 _ _ rfl w.heap.size #[.int .u64 a0, .int .u64 a1, .int .u64 a2, .int .u64 a3, .bool false, .bool true] rfl rfl 131 _ h0 hi rfl (by simp [Value.oneCell']) ?_))
  exact bodyPost_ret (results_fst (e := E) rfl rfl (by rw [HVE.out]; exact setRow_heap W2 w.heap.size _ _ 131 _ h0)) rfl ⟨rfl, below_setRow Hbl.out (Nat.le_refl _) _⟩
theorem firstElement_any (s : ByteArray) (c : UInt8) (r : List UInt8) (w : World) (hs : s.size ≤ 4096) (hsr : s.data.toList = c :: r) : Calls Tryz.prog 104 #[.string s] w (Bel (fstRes (firstEl c r)) w) := by
 have hpos : 0 < s.size := by rw [Lib.size_eq, hsr]; simp
 have hc : s[0] = c := by
  have := Lib.data_getElem? s 0 hpos
  rw [hsr] at this
  simpa using this.symm
 by_cases h42 : c = 42
 ·subst h42
  exact first_text s 42 true w hs hpos hc (Or.inl ⟨rfl, rfl⟩)
 by_cases h63 : c = 63
 ·subst h63
  exact first_text s 63 false w hs hpos hc (Or.inr ⟨rfl, rfl⟩)
 by_cases h91 : c = 91
 ·subst h91
  exact first_set s r w hs hpos hc hsr
 ·have h : firstEl c r = some (⟨false, true, fun x => x == c⟩, 0) := by
   unfold firstEl
   rw [if_neg h42, if_neg h63, if_neg h91]
  rw [h]
  exact first_self s c w hs hpos hc h42 h63 h91
end Go.Proofs.YtljkljnfbcmjdaaGreatDoor.Gl
namespace Go.Proofs.YtljkljnfbcmjdaaGreatDoor.Gl
open Go.RowKit
def elVs (l : List El) : List Value := l.flatMap fun e => (elV e).toList
theorem elVs_snoc (l : List El) (e : El) : elVs (l ++ [e]) = elVs l ++ (elV e).toList := by
 unfold elVs
 rw [List.flatMap_append]
 simp
theorem elVs_get : ∀ (l : List El) (i : Nat) (e : El) (j : Nat), l[i]? = some e → j < 6 → (elVs l)[i * 6 + j]? = (elV e)[j]?
 | [], i, e, j, h, _ => by simp at h
 | f :: r, 0, e, j, h, hj => by
  have hf : f = e := by simpa using h
  subst hf
  show ((elV f).toList ++ elVs r)[0 * 6 + j]? = _
  rw [List.getElem?_append_left (by rw [Array.length_toList, elV_size]; omega)]
  simp
 | f :: r, i + 1, e, j, h, hj => by
  show ((elV f).toList ++ elVs r)[(i + 1) * 6 + j]? = _
  rw [List.getElem?_append_right (by rw [Array.length_toList, elV_size]; omega), Array.length_toList, elV_size, show (i + 1) * 6 + j - 6 = i * 6 + j from by omega]
  exact elVs_get r i e j (by simpa using h) hj
/-- A row of elements as its owner has it reads so. -/
theorem elsAt_of {w : World} {B g cap : Nat} {l : List El} (h : w.ownsRow B 131 6 (.slice (some ⟨g, 0, none⟩) l.length cap) l.length (elVs l)) : ElsAt w g l := by
 intro i e he
 have hi := (List.getElem?_eq_some_iff.1 he).1
 have key : ∀ j, j < 6 → w.cell? ⟨g, i * 6 + j, none⟩ = (elV e)[j]? := fun j hj => by
  rw [h.cellAt (i * 6 + j) (by omega), elVs_get l i e j he hj]
 refine ⟨fun j hj => ?_, key 4 (by omega), key 5 (by omega)⟩
 rw [key j (by omega)]
 match j, hj with
 | 0, _ => rfl
 | 1, _ => rfl
 | 2, _ => rfl
 | 3, _ => rfl
theorem step_append_own {P : Program} {ops : Array Oper} {o : Oper} {a : Act} {w : World} {K : Act → World → Prop} {Q : Exit → Act → World → Prop} {E : Prop}
  (hg : o.guard = none) (s x : Operand) (t : TypeId) (hop : o.op = Op.call { callee := Callee.builtin Builtin.append, args := #[s, x], argTypes := #[t, t] }) (base : Nat)
  (e : TypeId) (i : TypeInfo) (z : Value) (size bytes : Nat) (h1 : P.underlying t = some (.slice e)) (h2 : P.info? e = some i) (h3 : i.zero = some z) (h4 : i.size = size) (h5 : i.bytes = bytes) (h6 : z.cells.size = size) (h7 : 0 < size)
  (v : Value) (n : Nat) (xs : List Value) (hs : a.eval s = v) (hrow : w.ownsRow base e size v n xs)
  (ad : Addr) (m c : Nat) (news : List Value) (hx : a.eval x = .slice (some ad) m c) (hn : news.length = m * size) (hc : ∀ j u, news[j]? = some u → w.cell? (ad.add j) = some u) (h1c : ∀ u ∈ news, u.oneCell' = true)
  (b1 : n + m ≤ maxLen) (b2 : (n + m) * bytes ≤ 140737488355328) (hb : base ≤ w.heap.size)
  (hK : ∀ v' w', w'.ownsRow base e size v' (n + m) (xs ++ news) → w.grownBy w' v.ownBlock → K (a.put o.dst v') w') :
  if Region.wanted o (yielded ops a.tmps) = true then Oper.wp P o a w K Q else E := by
 have hw : Region.wanted o (yielded ops a.tmps) = true := by simp [Region.wanted, hg]
 rw [if_pos hw]
 obtain ⟨v', w', hrun, r1, r2, _⟩ := run_append_own (P := P) w base t o.type e i z size bytes h1 h2 h3 h4 h5 h6 h7 v n xs hrow ad m c news hn hc h1c b1 b2 hb
 unfold Oper.wp
 simp [execOp, hop, resolve, invoke, builtin, hs, hx, hrun, Result.andThen]
 exact hK v' w' r1 r2
/-- While the pattern is read: the alternatives A, and l, to which elements are appended; its row is younger than the other alternatives'. -/
structure CompInv (w : World) (B' G cap : Nat) (A : List (List El)) (l : List El) (vs : List Value) (vl : Value) (wx : World) : Prop where
 outer : wx.ownsRow w.heap.size 117 1 (.slice (some ⟨G, 0, none⟩) (A.length + 1) cap) (A.length + 1) (vs ++ [vl])
 len : vs.length = A.length
 rows : ∀ (j : Nat) (v : Value) (a : List El), vs[j]? = some v → A[j]? = some a → wx.ownsRow w.heap.size 131 6 v a.length (elVs a) ∧ (∀ b, v.ownBlock = some b → b < B')
 last : wx.ownsRow B' 131 6 vl l.length (elVs l)
 B : w.heap.size ≤ B'
 B2 : B' ≤ wx.heap.size
 below : Below w.heap.size w wx
theorem CompInv.later {w wx w' : World} {B' G cap : Nat} {A : List (List El)} {l : List El} {vs : List Value} {vl : Value} (h : CompInv w B' G cap A l vs vl wx) (hb : Below wx.heap.size wx w') : CompInv w B' G cap A l vs vl w' :=
 ⟨ownsRow_below h.outer hb, h.len, fun j v a hj ha => ⟨ownsRow_below (h.rows j v a hj ha).1 hb, (h.rows j v a hj ha).2⟩, ownsRow_below h.last hb, h.B, Nat.le_trans h.B2 hb.size, h.below.trans (hb.mono h.below.size)⟩
theorem ownsRow_type {w : World} {B C : Nat} {t u : TypeId} {k m n p : Nat} {v x : Value} {xs ys : List Value} (h : w.ownsRow B t k v n xs) (h' : w.ownsRow C u m x p ys) (hne : t ≠ u) (hv : v.ownBlock ≠ none) : v.ownBlock ≠ x.ownBlock := by
 rcases h.2 with ⟨rfl, _⟩ | ⟨g, cap, cur, rfl, _, hg, _⟩
 ·exact absurd rfl hv
 ·rcases h'.2 with ⟨rfl, _⟩ | ⟨g', cap', cur', rfl, _, hg', _⟩
  ·simp [Value.ownBlock]
  ·intro e
   have : g = g' := by simpa [Value.ownBlock] using e
   subst this
   rw [hg] at hg'
   cases hg'
   exact hne rfl
theorem ownsRow_mono {w : World} {B C : Nat} {t : TypeId} {k n : Nat} {v : Value} {xs : List Value} (h : w.ownsRow B t k v n xs) (hC : C ≤ B) : w.ownsRow C t k v n xs := by
 refine ⟨h.1, ?_⟩
 rcases h.2 with h1 | ⟨g, cap, cur, hv, hB, rest⟩
 ·exact Or.inl h1
 ·exact Or.inr ⟨g, cap, cur, hv, Nat.le_trans hC hB, rest⟩
theorem form_some {w : World} {B : Nat} {t : TypeId} {k n : Nat} {v : Value} {xs : List Value} (h : w.ownsRow B t k v n xs) (hn : 0 < n) : ∃ g cap, v = .slice (some ⟨g, 0, none⟩) n cap ∧ B ≤ g ∧ g < w.heap.size := by
 rcases h.2 with ⟨_, h0⟩ | ⟨g, cap, cur, rfl, hB, hg, _⟩
 ·omega
 ·exact ⟨g, cap, rfl, hB, (Array.getElem?_eq_some_iff.1 hg).1⟩
/-- Behind a "|". -/
theorem CompInv.bar {w wx w1 : World} {B' G cap : Nat} {A : List (List El)} {l : List El} {vs : List Value} {vl v' : Value} {tmp : Obj} (h : CompInv w B' G cap A l vs vl wx)
  (hown : w1.ownsRow w.heap.size 117 1 v' (A.length + 1 + 1) ((vs ++ [vl]) ++ [.slice none 0 0])) (hg : (wx.alloc tmp).grownBy w1 (some G)) :
  ∃ G' cap', v' = .slice (some ⟨G', 0, none⟩) ((A ++ [l]).length + 1) cap' ∧ CompInv w w1.heap.size G' cap' (A ++ [l]) [] (vs ++ [vl]) (.slice none 0 0) w1 := by
 obtain ⟨G', cap', hv', _, _⟩ := form_some hown (by omega)
 have hlen : (A ++ [l]).length + 1 = A.length + 1 + 1 := by simp
 rw [hlen]
 refine ⟨G', cap', hv', ?_⟩
 have hsz : wx.heap.size ≤ w1.heap.size := Nat.le_trans (by simp) hg.size
 have hrow : ∀ {C : Nat} {v : Value} {a : List El}, wx.ownsRow C 131 6 v a.length (elVs a) → w1.ownsRow C 131 6 v a.length (elVs a) := by
  intro C v a hr
  refine (hr.alloc tmp).kept hg ?_
  cases hb : v.ownBlock with
  | none => exact Or.inl rfl
  | some b =>
   right
   have := ownsRow_type hr h.outer (by decide) (by rw [hb]; simp)
   rwa [hb] at this
 refine ⟨by rw [hlen, ← hv']; exact hown, by simp [h.len], fun j v a hj ha => ?_, World.ownsRow_nil _ _ _ _, Nat.le_trans h.below.size hsz, Nat.le_refl _, ?_⟩
 ·rcases Nat.lt_or_ge j vs.length with hlt | hge
  ·rw [List.getElem?_append_left hlt] at hj
   rw [List.getElem?_append_left (by rw [← h.len]; exact hlt)] at ha
   obtain ⟨h1, h2⟩ := h.rows j v a hj ha
   exact ⟨hrow h1, fun b hb => Nat.lt_of_lt_of_le (h2 b hb) (Nat.le_trans h.B2 hsz)⟩
  ·rw [List.getElem?_append_right hge] at hj
   rw [List.getElem?_append_right (by rw [← h.len]; exact hge), ← h.len] at ha
   have hj0 : j - vs.length = 0 := by
    rcases Nat.eq_zero_or_pos (j - vs.length) with h0 | h0
    ·exact h0
    ·rw [List.getElem?_eq_none (by simp; omega)] at hj; simp at hj
   rw [hj0] at hj ha
   simp only [List.getElem?_cons_zero, Option.some.injEq] at hj ha
   subst hj
   subst ha
   exact ⟨ownsRow_mono (hrow h.last) h.B, fun b hb => Nat.lt_of_lt_of_le (h.last.lt b hb).2 hsz⟩
 ·have hG : w.heap.size ≤ G := (h.outer.lt G rfl).1
  refine (h.below.alloc h.below.size tmp).grown hg (Nat.le_trans h.below.size (by simp)) fun k hk => ?_
  cases hk
  exact hG
/-- Behind an element. -/
theorem CompInv.elem {w wx w1 : World} {B' G cap : Nat} {A : List (List El)} {l : List El} {vs : List Value} {vl v' : Value} {tmp : Obj} {e : El} (h : CompInv w B' G cap A l vs vl wx)
  (hown : w1.ownsRow B' 131 6 v' (l.length + 1) (elVs l ++ (elV e).toList)) (hg : (wx.alloc tmp).grownBy w1 vl.ownBlock) :
  CompInv w B' G cap A (l ++ [e]) vs v' (w1.setCell ⟨G, A.length, none⟩ v') ∧ w1.cell? ⟨G, A.length, none⟩ = some vl ∧ w1.frozen? ⟨G, A.length, none⟩ = false := by
 have hsz : wx.heap.size ≤ w1.heap.size := Nat.le_trans (by simp) hg.size
 have hout : w1.ownsRow w.heap.size 117 1 (.slice (some ⟨G, 0, none⟩) (A.length + 1) cap) (A.length + 1) (vs ++ [vl]) := by
  refine (h.outer.alloc tmp).kept hg (Or.inr ?_)
  exact ownsRow_type h.outer h.last (by decide) (by simp [Value.ownBlock])
 have hGB : w.heap.size ≤ G := (h.outer.lt G rfl).1
 have hrows : ∀ {C : Nat} {v : Value} {a : List El}, w1.ownsRow C 131 6 v a.length (elVs a) → (w1.setCell ⟨G, A.length, none⟩ v').ownsRow C 131 6 v a.length (elVs a) := by
  intro C v a hr
  refine ownsRow_setCell_other hr ?_ _
  intro he
  have := ownsRow_type hr hout (by decide) (by rw [he]; simp)
  rw [he] at this
  exact this rfl
 have hstored := hout.stored A.length v'
 have hset : (vs ++ [vl]).set A.length v' = vs ++ [v'] := by
  rw [← h.len, List.set_append_right _ _ (Nat.le_refl _), Nat.sub_self]
  rfl
 refine ⟨⟨?_, h.len, fun j v a hj ha => ?_, ?_, h.B, ?_, ?_⟩, ?_, hout.frozenAt _⟩
 ·rw [← hset]
  exact hstored.1
 ·obtain ⟨h1, h2⟩ := h.rows j v a hj ha
  refine ⟨hrows ((h1.alloc tmp).kept hg ?_), h2⟩
  cases hb : v.ownBlock with
  | none => exact Or.inl rfl
  | some b =>
   right
   have hlt := h2 b hb
   intro e2
   have := (h.last.lt b e2.symm).1
   omega
 ·have h0 := hrows (a := l ++ [e]) (v := v') (C := B') (by rw [List.length_append, elVs_snoc]; exact hown)
  exact h0
 ·rw [World.size_setCell]; exact Nat.le_trans h.B2 hsz
 ·refine Below.setCell ?_ hGB _
  refine (h.below.alloc h.below.size tmp).grown hg (Nat.le_trans h.below.size (by simp)) fun k hk => ?_
  exact Nat.le_trans h.B (h.last.lt k hk).1
 ·rw [hout.cellAt A.length (by omega), ← h.len]
  simp
/-- The alternatives L lie behind the slice v. -/
def AltsAt (w : World) (v : Value) (L : List (List El)) : Prop := ∃ G cap, v = .slice (some ⟨G, 0, none⟩) L.length cap ∧ G < w.heap.size ∧ L.length ≤ cap ∧
 ∀ (j : Nat) (a : List El), L[j]? = some a → ∃ aj cj gj, w.cell? ⟨G, j, none⟩ = some (.slice aj a.length cj) ∧ (0 < a.length → aj = some ⟨gj, 0, none⟩) ∧ gj < w.heap.size ∧ ElsAt w gj a
theorem row_read {w : World} {B : Nat} {v : Value} {a : List El} (h : w.ownsRow B 131 6 v a.length (elVs a)) (hpos : 0 < w.heap.size) : ∃ aj cj gj, v = .slice aj a.length cj ∧ (0 < a.length → aj = some ⟨gj, 0, none⟩) ∧ gj < w.heap.size ∧ ElsAt w gj a := by
 rcases h.2 with ⟨rfl, h0⟩ | ⟨g, cap, cur, rfl, hB, hg, _⟩
 ·refine ⟨none, 0, 0, by rw [h0], fun h => by omega, hpos, ?_⟩
  have : a = [] := List.length_eq_zero_iff.1 h0
  subst this
  intro i e he
  simp at he
 ·exact ⟨some ⟨g, 0, none⟩, cap, g, rfl, fun _ => rfl, (Array.getElem?_eq_some_iff.1 hg).1, elsAt_of h⟩
theorem CompInv.alts {w wx : World} {B' G cap : Nat} {A : List (List El)} {l : List El} {vs : List Value} {vl : Value} (h : CompInv w B' G cap A l vs vl wx) : AltsAt wx (.slice (some ⟨G, 0, none⟩) (A.length + 1) cap) (A ++ [l]) := by
 have hG := (h.outer.lt G rfl).2
 have hcap : A.length + 1 ≤ cap := by
  rcases h.outer.2 with ⟨h0, _⟩ | ⟨g, cp, cur, h0, _, _, h1, _⟩
  ·simp at h0
  ·cases h0
   exact h1
 refine ⟨G, cap, by simp, hG, by simpa using hcap, fun j a hj => ?_⟩
 have hjl : j < A.length + 1 := by have := (List.getElem?_eq_some_iff.1 hj).1; simpa using this
 have hc := h.outer.cellAt j (by omega)
 rcases Nat.lt_or_ge j A.length with hlt | hge
 ·rw [List.getElem?_append_left hlt] at hj
  obtain ⟨v, hv⟩ : ∃ v, vs[j]? = some v := ⟨vs[j]'(by rw [h.len]; exact hlt), List.getElem?_eq_getElem _⟩
  rw [List.getElem?_append_left (by rw [h.len]; exact hlt), hv] at hc
  obtain ⟨aj, cj, gj, rfl, h1, h2, h3⟩ := row_read (h.rows j v a hv hj).1 (by omega)
  exact ⟨aj, cj, gj, hc, h1, h2, h3⟩
 ·obtain rfl : j = A.length := by omega
  rw [List.getElem?_append_right (Nat.le_refl _), Nat.sub_self] at hj
  simp only [List.getElem?_cons_zero, Option.some.injEq] at hj
  subst hj
  rw [List.getElem?_append_right (by rw [h.len]; exact Nat.le_refl _), h.len, Nat.sub_self] at hc
  obtain ⟨aj, cj, gj, rfl, h1, h2, h3⟩ := row_read h.last (by omega)
  exact ⟨aj, cj, gj, hc, h1, h2, h3⟩
theorem CompInv.first {w W1 w2 : World} {c : Nat} (hb : Below w.heap.size w W1) (hown : w2.ownsRow W1.heap.size 131 6 (.slice (some ⟨W1.heap.size, 0, none⟩) 0 c) 0 []) (hg : W1.grownBy w2 none) :
  CompInv w W1.heap.size w2.heap.size 1 [] [] [] (.slice (some ⟨W1.heap.size, 0, none⟩) 0 c) (w2.alloc (.cells #[.slice (some ⟨W1.heap.size, 0, none⟩) 0 c] 117)) := by
 have h2 : w.heap.size ≤ w2.heap.size := Nat.le_trans hb.size hg.size
 have hb2 : Below w.heap.size w w2 := hb.grown hg hb.size (fun k hk => by simp at hk)
 refine ⟨?_, rfl, fun j v a hj _ => by simp at hj, hown.alloc _, hb.size, Nat.le_trans hg.size (by simp), hb2.alloc h2 _⟩
 exact ⟨rfl, Or.inr ⟨w2.heap.size, 1, #[.slice (some ⟨W1.heap.size, 0, none⟩) 0 c], rfl, h2, heap_alloc_last w2 _, Nat.le_refl _, by unfold maxLen; omega, rfl, rfl⟩⟩
end Go.Proofs.YtljkljnfbcmjdaaGreatDoor.Gl
namespace Go.Proofs.YtljkljnfbcmjdaaGreatDoor.Gl
open Go.RowKit
theorem info42 : (Tryz.prog.info? 117).map (fun i => (i.zero, i.size, i.bytes)) = some (some (.slice none 0 0), 1, 24) := by kernel_rfl
theorem info63b : (Tryz.prog.info? 131).map (fun i => (i.zero, i.size, i.bytes)) = some (some (.agg (#[.int .u64 0, .int .u64 0, .int .u64 0, .int .u64 0, .bool false, .bool false])), 6, 40) := by kernel_rfl
theorem firstEl_le {c : UInt8} {r : List UInt8} {e : El} {k : Nat} (h : firstEl c r = some (e, k)) : k ≤ r.length := by
 unfold firstEl at h
 split at h
 ·simp at h; omega
 ·split at h
  ·simp at h; omega
  ·split at h
   ·split at h
    ·rename_i hc
     have hidx : r.idxOf 93 < r.length := List.idxOf_lt_length_iff.2 (by simpa using hc)
     simp only [Option.map_eq_some_iff, Prod.mk.injEq] at h
     obtain ⟨_, _, _, rfl⟩ := h
     exact hidx
    ·simp at h
   ·simp at h; omega
theorem cell_six_new (w : World) (c : Array Value) (t : TypeId) : ∀ j u, c.toList[j]? = some u → (w.alloc (.cells c t)).cell? ((⟨w.heap.size, 0, none⟩ : Addr).add j) = some u := by
 intro j u h
 have hadd : (⟨w.heap.size, 0, none⟩ : Addr).add j = ⟨w.heap.size, j, none⟩ := by unfold Addr.add; split <;> simp_all
 rw [hadd, cell_of_row _ _ j _ _ _ (heap_alloc_last w (.cells c t))]
 simpa using h
def CompPost (p : List UInt8) (w : World) (e : Ending) (w' : World) : Prop := Below w.heap.size w w' ∧
 if 256 < p.length then e = .returned (.tuple #[.slice none 0 0, .int .i64 21])
 else if allIn TextSet p = false then e = .returned (.tuple #[.slice none 0 0, .int .i64 20])
 else match toks p with
  | none => e = .returned (.tuple #[.slice none 0 0, .int .i64 20])
  | some T => ∃ v, e = .returned (.tuple #[v, .int .i64 0]) ∧ AltsAt w' v (altsOf T)
set_option maxHeartbeats 400000 in
set_option maxRecDepth 100000 in
theorem compile_any (p : ByteArray) (w : World) (hp : p.size ≤ 4611686018427387904) : Calls Tryz.prog 87 #[.string p] w (CompPost p.data.toList w) := by
 have hsz := Lib.size_eq p
 by_cases h256 : 256 < p.size
 ·have hi : (p.size : Int) > 256 := by omega
  have hv : ∀ e w', Below w.heap.size w w' → e = .returned (.tuple #[.slice none 0 0, .int .i64 21]) → CompPost p.data.toList w e w' := fun e w' h1 h2 => ⟨h1, by rw [if_pos (by rw [← hsz]; exact h256)]; exact h2⟩
  have Hv := Lib.hid hv
  clear hv hsz
  go_enter Tryz.func87, Tryz.ntmps87
  go_wp2
  go_ret2
  exact Hv.out _ _ (Below.refl _ _) rfl
 ·have hi : ¬ (p.size : Int) > 256 := by omega
  have htx := fun W => text_any p W hp
  have htb : textB p.data.toList = allIn TextSet p.data.toList := by
   unfold textB
   rw [decide_eq_true (by rw [← hsz]; omega), Bool.true_and]
  rw [htb] at htx
  cases hall : allIn TextSet p.data.toList with
  | false =>
   have hv : ∀ e w', Below w.heap.size w w' → e = .returned (.tuple #[.slice none 0 0, .int .i64 20]) → CompPost p.data.toList w e w' := fun e w' h1 h2 => ⟨h1, by rw [if_neg (by rw [← hsz]; exact h256), if_pos hall]; exact h2⟩
   rw [hall] at htx
   have Hv := Lib.hid hv
   have Htx := Lib.hid htx
   clear hv hsz htx htb hall
   go_enter Tryz.func87, Tryz.ntmps87
   go_wp2_with fail
   refine (Htx.out _).mono ?_
   rintro ed W1 ⟨rfl, hb⟩
   go_wp2
   go_ret2
   exact Hv.out _ _ hb rfl
  | true =>
   have hv : ∀ e w', Below w.heap.size w w' → (match toks p.data.toList with | none => e = .returned (.tuple #[.slice none 0 0, .int .i64 20]) | some T => ∃ v, e = .returned (.tuple #[v, .int .i64 0]) ∧ AltsAt w' v (altsOf T)) → CompPost p.data.toList w e w' := fun e w' h1 h2 => ⟨h1, by rw [if_neg (by rw [← hsz]; exact h256), if_neg (by rw [hall]; simp)]; exact h2⟩
   rw [hall] at htx
   have Hv := Lib.hid hv
   have Htx := Lib.hid htx
   have hpl : p.data.toList.length ≤ 256 := by rw [← hsz]; omega
   clear hv hsz htx htb hall
   obtain ⟨i0, hi0, hz0, hz1, hz2⟩ := info_parts info42
   obtain ⟨i3, hi3, hy0, hy1, hy2⟩ := info_parts info63b
   have hv63 := (zero_of_info (P := Tryz.prog) info63).1
   go_enter Tryz.func87, Tryz.ntmps87
   go_wp2_with fail
   refine (Htx.out _).mono ?_
   rintro ed W1 ⟨rfl, hb⟩
   obtain ⟨w2, hrun, hown, hg⟩ := run_make_own W1 W1.heap.size 117 131 i3 _ 6 Tryz.underlying117 hi3 hy0 hy1 .i64 .i64 p.size (by rw [hy2]; omega) (by unfold maxLen; omega) (Nat.le_refl _)
   have Hfirst := Lib.hid (CompInv.first hb hown hg)
   clear hb hown hg
   go_wp2
   go_loopw [0, 4] (fun s0 s4 wx => ∃ (q : ByteArray) (T : List (Option El)) (A : List (List El)) (l : List El) (vs : List Value) (vl : Value) (B' G cap : Nat), s0 = .string q ∧ s4 = .slice (some ⟨G, 0, none⟩) (A.length + 1) cap ∧ altsOf T = A ++ [l] ∧ CompInv w B' G cap A l vs vl wx ∧ (toks q.data.toList).map (T ++ ·) = toks p.data.toList ∧ q.size ≤ 256 ∧ A.length + 1 + q.size ≤ 257 ∧ l.length + q.size ≤ 256) (fun s0 _ _ => strSize s0)
   case atStart => exact ⟨p, [], [], [], [], _, _, _, 1, rfl, rfl, rfl, Hfirst.out, by cases toks p.data.toList <;> simp, by omega, by simp; omega, by simp; omega⟩
   case round =>
    obtain ⟨q, T, A, l, vs, vl, B', G, cap, rfl, rfl, halts, hinv, htoks, hq, hA, hl⟩ := hrel
    have Hinv := Lib.hid hinv
    clear hinv
    have hqs := Lib.size_eq q
    cases hqd : q.data.toList with
    | nil =>
     have he := empty_form hqd
     have hT : toks p.data.toList = some T := by rw [← htoks, hqd]; show (some []).map _ = _; simp
     have hfin : CompPost p.data.toList w (.returned (.tuple #[.slice (some ⟨G, 0, none⟩) (A.length + 1) cap, .int .i64 0])) wr := Hv.out _ _ Hinv.out.below (by rw [hT]; exact ⟨_, rfl, by rw [halts]; exact Hinv.out.alts⟩)
     have Hfin := Lib.hid hfin
     clear hT hfin htoks hqd hqs halts
     go_wp2
     go_ret2
     exact Hfin.out
    | cons c r =>
     have hne := nonempty_form (s := q) (by rw [hqd]; simp)
     have hqpos : 0 < q.size := by rw [hqs, hqd]; simp
     have hqposi : (0 : Int) < (q.size : Int) := by omega
     have hc0 : q[0]'hqpos = c := by
      have := Lib.data_getElem? q 0 hqpos
      rw [hqd] at this
      simpa using this.symm
     have hci : (c.toNat : Int) < 256 := by have := UInt8.toNat_lt c; omega
     have hdrop := drop_data q
     rw [hqd] at htoks hdrop
     rw [toks_cons] at htoks
     by_cases hbar : c = 124
     ·subst hbar
      rw [if_pos rfl] at htoks
      have hnext : (toks r).map ((T ++ [none]) ++ ·) = toks p.data.toList := by
       rw [← htoks]
       cases toks r <;> simp
      have halts2 : altsOf (T ++ [none]) = (A ++ [l]) ++ [[]] := by rw [altsOf_none, halts]; rfl
      have hq1 : (q.extract 1 q.size).data.toList = r := by rw [hdrop 1]; rfl
      have hq1s : (q.extract 1 q.size).size = q.size - 1 := by rw [Lib.size_eq, hq1, hqs, hqd]; simp
      have h1i : (1 : Int) ≤ (q.size : Int) := by omega
      have Hnext := Lib.hid hnext
      have Halts2 := Lib.hid halts2
      have Hq1 := Lib.hid hq1
      have Hq1s := Lib.hid hq1s
      clear hnext halts2 hq1 hq1s htoks halts hdrop hqd hqs
      go_wp2_with (at_builtin; refine wpList_append_own _ rfl _ _ 112 rfl w.heap.size 117 i0 _ 1 24 Tryz.underlying112 hi0 hz0 hz1 hz2 rfl (by decide) _ _ _ rfl (Hinv.out.outer.alloc _) ⟨wr.heap.size, 0, none⟩ 1 1 [.slice none 0 0] rfl rfl (cell_one_new _ _ _) (by simp [Value.oneCell']) (by unfold maxLen; omega) (by omega) (Nat.le_trans Hinv.out.below.size (by simp)) ?_; intro v' w1 hown' hgrow _; have Hbar := Lib.hid (Hinv.out.bar hown' hgrow); clear hown' hgrow)
      obtain ⟨G', cap', rfl, hinv'⟩ := Hbar.out
      have hqd' := Hq1.out
      have hqs' := Hq1s.out
      exact ⟨⟨q.extract 1 q.size, T ++ [none], A ++ [l], [], vs ++ [vl], .slice none 0 0, _, G', cap', rfl, rfl, Halts2.out, hinv', by rw [hqd']; exact Hnext.out, by omega, by simp; omega, by simp; omega⟩, by show (q.extract 1 q.size).size < q.size; omega⟩
     ·have hnb := byte_ne (x := c) (k := 124) (by omega) hbar
      rw [if_neg hbar] at htoks
      have hfe := fun W => firstElement_any q c r W (by omega) hqd
      cases hfr : firstEl c r with
      | none =>
       rw [hfr] at htoks hfe
       simp only [Option.map_none] at htoks
       have Hv2 := Lib.hid (fun w' (hb : Below w.heap.size w w') => Hv.out _ w' hb (by rw [← htoks]))
       have Hfe := Lib.hid hfe
       have Hbel := Lib.hid Hinv.out.below
       clear htoks hfe hqd hqs halts hdrop hfr
       go_wp2_with fail
       refine (Hfe.out _).mono ?_
       rintro ed W2 ⟨rfl, hb2⟩
       have Hb2 := Lib.hid (Hbel.out.trans (hb2.mono Hbel.out.size))
       clear hb2
       simp only [fstRes, ← elV_zero]
       go_wp2
       go_ret2
       exact Hv2.out _ (Hb2.out.alloc Hb2.out.size _)
      | some ek =>
       obtain ⟨e, k⟩ := ek
       have hkle := firstEl_le hfr
       rw [hfr] at htoks hfe
       simp only at htoks
       have hnext : (toks (r.drop k)).map ((T ++ [some e]) ++ ·) = toks p.data.toList := by
        rw [← htoks]
        cases toks (r.drop k) <;> simp
       have halts2 : altsOf (T ++ [some e]) = A ++ [l ++ [e]] := by
        rw [altsOf_some, halts]
        simp [snocLast]
       have hrl : r.length + 1 = q.size := by rw [hqs, hqd]; simp
       have hq1 : (q.extract (k + 1) q.size).data.toList = r.drop k := by rw [hdrop (k + 1)]; rfl
       have hq1s : (q.extract (k + 1) q.size).size = q.size - (k + 1) := by rw [Lib.size_eq, hq1, List.length_drop]; omega
       have hki : (k : Int) + 1 ≤ (q.size : Int) := by omega
       have hk0 : ((k : Int) + 1 == 0) = false := by rw [beq_eq_false_iff_ne]; omega
       have hVE : (elV e).toList = [.int .u64 (wd e.set 0), .int .u64 (wd e.set 1), .int .u64 (wd e.set 2), .int .u64 (wd e.set 3), .bool e.star, .bool e.self] := rfl
       simp only [fstRes, elV] at hfe
       generalize ((wd e.set 0 : Nat) : Int) = a0 at *
       generalize ((wd e.set 1 : Nat) : Int) = a1 at *
       generalize ((wd e.set 2 : Nat) : Int) = a2 at *
       generalize ((wd e.set 3 : Nat) : Int) = a3 at *
       generalize e.star = b4 at *
       generalize e.self = b5 at *
       have HVE := Lib.hid hVE
       have Hfe := Lib.hid hfe
       have Hnext := Lib.hid hnext
       have Halts2 := Lib.hid halts2
       have Hq1 := Lib.hid hq1
       have Hq1s := Lib.hid hq1s
       clear hVE htoks hfe hqd hqs halts hdrop hfr hnext halts2 hq1 hq1s
       go_wp2_with fail
       refine (Hfe.out _).mono ?_
       rintro ed W2 ⟨rfl, hb2⟩
       have Hinv2 := Lib.hid (Hinv.out.later hb2)
       clear hb2
       go_wp2_with (refine wpList_store_new W2 131 _ #[.int .u64 a0, .int .u64 a1, .int .u64 a2, .int .u64 a3, .bool b4, .bool b5] rfl _ _ rfl rfl rfl (zero_of_info (P := Tryz.prog) info63).2 rfl (by simp [Value.oneCell']) ?_)
       have h5 := heap_alloc_last W2 (.cells #[.int .u64 a0, .int .u64 a1, .int .u64 a2, .int .u64 a3, .bool b4, .bool b5] 131)
       have hb3 : Below W2.heap.size W2 (W2.alloc (.cells #[.int .u64 a0, .int .u64 a1, .int .u64 a2, .int .u64 a3, .bool b4, .bool b5] 131)) := (Below.refl _ _).alloc (Nat.le_refl _) _
       have hlt5 : W2.heap.size < (W2.alloc (.cells #[.int .u64 a0, .int .u64 a1, .int .u64 a2, .int .u64 a3, .bool b4, .bool b5] 131)).heap.size := by simp
       obtain ⟨b5k, hb5k⟩ : ∃ n, W2.heap.size = n := ⟨_, rfl⟩
       have hinv3 := Hinv2.out.later hb3
       rw [hb5k] at h5 hlt5 ⊢
       clear hb3
       generalize W2.alloc (.cells #[.int .u64 a0, .int .u64 a1, .int .u64 a2, .int .u64 a3, .bool b4, .bool b5] 131) = W3 at *
       have hinvd : CompInv w B' G cap A l vs vl W3.drew := hinv3.later (Below.refl _ _).drew
       have Hinvd := Lib.hid hinvd
       have d0 := cell_of_row W3 b5k 0 _ _ _ h5
       have d1 := cell_of_row W3 b5k 1 _ _ _ h5
       have d2 := cell_of_row W3 b5k 2 _ _ _ h5
       have d3 := cell_of_row W3 b5k 3 _ _ _ h5
       have d4 := cell_of_row W3 b5k 4 _ _ _ h5
       have d5 := cell_of_row W3 b5k 5 _ _ _ h5
       have hGlt : G < W3.heap.size := (hinv3.outer.lt G rfl).2
       have dG : W3.cell? ⟨G, A.length, none⟩ = some vl := by
        rw [hinv3.outer.cellAt A.length (by omega), ← hinv3.len]; simp
       have hB3 : B' ≤ W3.heap.size := hinv3.B2
       have hl3 : l.length + 1 ≤ maxLen := by unfold maxLen; omega
       simp only [List.getElem?_toArray, List.getElem?_cons_zero, List.getElem?_cons_succ] at d0 d1 d2 d3 d4 d5
       have hlA : (A.length : Int) < (A.length : Int) + 1 := by omega
       clear hinv3 hinvd h5
       go_region_law (refine step_append_own rfl (.tmp 43) (.tmp 45) 117 rfl B' 131 i3 _ 6 40 Tryz.underlying117 hi3 hy0 hy1 hy2 rfl (by decide) vl l.length (elVs l) rfl (Hinvd.out.last.alloc _) ⟨W3.heap.size, 0, none⟩ 1 1 [.int .u64 a0, .int .u64 a1, .int .u64 a2, .int .u64 a3, .bool b4, .bool b5] rfl rfl (cell_six_new _ _ _) (by simp [Value.oneCell']) hl3 (by omega) (Nat.le_trans hB3 (by simp)) ?_; intro v' w' hown hgrow; obtain ⟨gn, capn, hvn, _, _⟩ := form_some hown (Nat.succ_pos _); subst hvn; rw [← HVE.out] at hown; have Hel := Lib.hid (Hinvd.out.elem hown hgrow); have hcn := Hel.out.2.1; have hfn := Hel.out.2.2; clear hown hgrow)
       all_goals
        have hqd' := Hq1.out
        have hqs' := Hq1s.out
        go_wp2
        exact ⟨⟨q.extract (k + 1) q.size, T ++ [some e], A, l ++ [e], vs, _, _, G, cap, rfl, rfl, Halts2.out, Hel.out.1, by rw [hqd']; exact Hnext.out, by omega, by omega, by simp; omega⟩, by show (q.extract (k + 1) q.size).size < q.size; omega⟩
end Go.Proofs.YtljkljnfbcmjdaaGreatDoor.Gl
namespace Go.Proofs.YtljkljnfbcmjdaaGreatDoor.Gl
open Go.RowKit
/-- The alternatives of a pattern, and the error of a text that is none. -/
def altsP (p : List UInt8) : Option (List (List El)) := if 256 < p.length then none else if allIn TextSet p = false then none else (toks p).map altsOf
def errP (p : List UInt8) : Int := if 256 < p.length then 21 else if (altsP p).isSome then 0 else 20
theorem errP_some {p : List UInt8} {L : List (List El)} (h : altsP p = some L) : errP p = 0 := by
 unfold errP
 rw [h]
 unfold altsP at h
 split at h
 ·simp at h
 ·rename_i h1
  rw [if_neg h1]
  rfl
theorem errP_none {p : List UInt8} (h : altsP p = none) : errP p = 20 ∨ errP p = 21 := by
 unfold errP
 rw [h]
 split
 ·exact Or.inr rfl
 ·exact Or.inl rfl
def CPost (p : List UInt8) (w : World) (e : Ending) (w' : World) : Prop := Below w.heap.size w w' ∧ match altsP p with
 | none => e = .returned (.tuple #[.slice none 0 0, .int .i64 (errP p)])
 | some L => ∃ v, e = .returned (.tuple #[v, .int .i64 0]) ∧ AltsAt w' v L
theorem comp_any (p : ByteArray) (w : World) (hp : p.size ≤ 4611686018427387904) : Calls Tryz.prog 87 #[.string p] w (CPost p.data.toList w) := by
 refine (compile_any p w hp).mono ?_
 rintro e w' ⟨hb, h⟩
 refine ⟨hb, ?_⟩
 unfold errP altsP
 split at h
 ·rename_i h1
  simp only [if_pos h1]
  exact h
 ·rename_i h1
  simp only [if_neg h1]
  split at h
  ·rename_i h2
   simp only [if_pos h2]
   exact h
  ·rename_i h2
   simp only [if_neg h2]
   cases ht : toks p.data.toList with
   | none => rw [ht] at h; exact h
   | some T => rw [ht] at h; exact h
theorem comp_none {p : ByteArray} (h : altsP p.data.toList = none) (hp : p.size ≤ 4611686018427387904) (w : World) : Calls Tryz.prog 87 #[.string p] w (Bel (.tuple #[.slice none 0 0, .int .i64 (errP p.data.toList)]) w) := by
 refine (comp_any p w hp).mono ?_
 rintro e w' ⟨hb, h1⟩
 rw [h] at h1
 exact ⟨h1, hb⟩
theorem comp_some {p : ByteArray} {L : List (List El)} (h : altsP p.data.toList = some L) (hp : p.size ≤ 4611686018427387904) (w : World) : Calls Tryz.prog 87 #[.string p] w (fun e w' => Below w.heap.size w w' ∧ ∃ v, e = .returned (.tuple #[v, .int .i64 0]) ∧ AltsAt w' v L) := by
 refine (comp_any p w hp).mono ?_
 rintro e w' ⟨hb, h1⟩
 rw [h] at h1
 exact ⟨hb, h1⟩
theorem text_iff (b : UInt8) : TextSet.contains b = isText b := by
 have := forall_u8 (p := fun b => TextSet.contains b == isText b) (by decide +kernel) b
 simpa using this
/-- The sets of a pattern have bytes of texts only. -/
def okSet (S : UInt8 → Bool) : Prop := ∀ b, S b = true → isText b = true
theorem range_ok {a c : UInt8} (ha : isText a = true) (hc : isText c = true) : okSet (rangeB a c) := by
 intro b hb
 unfold isText rangeB at *
 simp only [Bool.and_eq_true, decide_eq_true_eq] at *
 omega
theorem or_ok {S T : UInt8 → Bool} (hS : okSet S) (hT : okSet T) : okSet fun x => S x || T x := by
 intro b hb
 rcases Bool.or_eq_true_iff.1 hb with h | h
 ·exact hS b h
 ·exact hT b h
theorem memB_ok : ∀ (n : Nat) (l : List UInt8) (S R : UInt8 → Bool), l.length ≤ n → l.all isText = true → okSet S → memB S l = some R → okSet R
 | _, [], S, R, _, _, hS, h => by rw [memB] at h; cases h; exact hS
 | 0, _ :: _, _, _, hn, _, _, _ => by simp at hn
 | n + 1, a :: t, S, R, hn, hl, hS, h => by
  rw [List.all_cons, Bool.and_eq_true] at hl
  simp only [List.length_cons] at hn
  by_cases hs : t.length < 2 ∨ t[0]? ≠ some 45
  ·rw [memB_single S a t hs] at h
   exact memB_ok n t _ R (by omega) hl.2 (or_ok hS (range_ok hl.1 hl.1)) h
  ·match t, hs, hl, hn, h with
   | [], hs, _, _, _ => exact absurd (Or.inl (by simp)) hs
   | [_], hs, _, _, _ => exact absurd (Or.inl (by simp)) hs
   | b :: c :: u, hs, hl, hn, h =>
    have hb : b = 45 := by
     rw [not_or] at hs
     simpa using Decidable.of_not_not hs.2
    subst hb
    rw [memB_range] at h
    split at h
    ·simp at h
    ·simp only [List.all_cons, Bool.and_eq_true] at hl
     exact memB_ok n u _ R (by simp only [List.length_cons] at hn; omega) hl.2.2.2 (or_ok hS (range_ok hl.1 hl.2.2.1)) h
theorem firstEl_ok {c : UInt8} {r : List UInt8} {e : El} {k : Nat} (hc : isText c = true) (hr : r.all isText = true) (h : firstEl c r = some (e, k)) : e.ok ∧ (e.self = true → ∃ b, isText b = true ∧ e.star = false ∧ e.set = fun x => x == b) := by
 unfold firstEl at h
 split at h
 ·simp only [Option.some.injEq, Prod.mk.injEq] at h
  obtain ⟨rfl, _⟩ := h
  exact ⟨⟨fun _ h => h, fun _ _ h => h⟩, fun h => by simp at h⟩
 ·split at h
  ·simp only [Option.some.injEq, Prod.mk.injEq] at h
   obtain ⟨rfl, _⟩ := h
   exact ⟨⟨fun _ h => h, fun h => by simp at h⟩, fun h => by simp at h⟩
  ·split at h
   ·split at h
    ·simp only [Option.map_eq_some_iff, Prod.mk.injEq] at h
     obtain ⟨S, hS, rfl, _⟩ := h
     refine ⟨⟨?_, fun h => by simp at h⟩, fun h => by simp at h⟩
     have hrt : (r.take (r.idxOf 93)).all isText = true := List.all_eq_true.2 fun x hx => List.all_eq_true.1 hr x (List.mem_of_mem_take hx)
     generalize r.take (r.idxOf 93) = m at *
     show okSet S
     unfold setB at hS
     split at hS
     ·simp at hS
     ·rename_i d u
      rw [List.all_cons, Bool.and_eq_true] at hrt
      split at hS
      ·split at hS
       ·simp at hS
       ·simp only [Option.map_eq_some_iff] at hS
        obtain ⟨R, hR, rfl⟩ := hS
        intro b hb
        rw [Bool.and_eq_true] at hb
        exact hb.1
      ·exact memB_ok _ _ _ S (Nat.le_refl _) (by rw [List.all_cons, hrt.1, hrt.2]; rfl) (fun _ h => by simp at h) hS
    ·simp at h
   ·simp only [Option.some.injEq, Prod.mk.injEq] at h
    obtain ⟨rfl, _⟩ := h
    refine ⟨⟨fun b hb => ?_, fun h => by simp at h⟩, fun _ => ⟨c, hc, rfl, rfl⟩⟩
    have : b = c := by simpa using hb
    rw [this]; exact hc
def ElGood (e : El) : Prop := e.ok ∧ (e.self = true → ∃ b, isText b = true ∧ e.star = false ∧ e.set = fun x => x == b)
theorem toks_good : ∀ (n : Nat) (p : List UInt8) (T : List (Option El)), p.length ≤ n → p.all isText = true → toks p = some T → (∀ e, some e ∈ T → ElGood e) ∧ T.length ≤ p.length
 | _, [], T, _, _, h => by
  have : T = [] := by have h' : (some [] : Option (List (Option El))) = some T := h; cases h'; rfl
  subst this
  exact ⟨fun e he => by simp at he, Nat.le_refl _⟩
 | 0, _ :: _, _, hn, _, _ => by simp at hn
 | n + 1, c :: r, T, hn, hl, h => by
  rw [List.all_cons, Bool.and_eq_true] at hl
  simp only [List.length_cons] at hn
  rw [toks_cons] at h
  split at h
  ·simp only [Option.map_eq_some_iff] at h
   obtain ⟨U, hU, rfl⟩ := h
   obtain ⟨i1, i2⟩ := toks_good n r U (by omega) hl.2 hU
   exact ⟨fun e he => i1 e (by simpa using he), by simp; exact i2⟩
  ·split at h
   ·simp at h
   ·rename_i e k hf
    simp only [Option.map_eq_some_iff] at h
    obtain ⟨U, hU, rfl⟩ := h
    obtain ⟨i1, i2⟩ := toks_good n (r.drop k) U (by simp; omega) (List.all_eq_true.2 fun x hx => List.all_eq_true.1 hl.2 x (List.mem_of_mem_drop hx)) hU
    refine ⟨fun f hf' => ?_, by simp at i2 ⊢; omega⟩
    rcases List.mem_cons.1 hf' with h1 | h1
    ·cases h1
     exact firstEl_ok hl.1 hl.2 hf
    ·exact i1 f h1
theorem altsOf_mem {T : List (Option El)} {a : List El} {e : El} (ha : a ∈ altsOf T) (he : e ∈ a) : some e ∈ T := by
 induction T generalizing a with
 | nil => simp [altsOf] at ha; subst ha; simp at he
 | cons x t ih => cases x with
  | none =>
   simp only [altsOf, List.mem_cons] at ha
   rcases ha with rfl | ha
   ·simp at he
   ·exact List.mem_cons_of_mem _ (ih ha he)
  | some f =>
   simp only [altsOf] at ha
   cases hh : altsOf t with
   | nil => exact absurd hh (altsOf_ne t)
   | cons h r =>
    rw [hh] at ha
    simp only [List.mem_cons] at ha
    rcases ha with rfl | ha
    ·rcases List.mem_cons.1 he with rfl | he
     ·exact List.mem_cons_self
     ·exact List.mem_cons_of_mem _ (ih (by rw [hh]; exact List.mem_cons_self) he)
    ·exact List.mem_cons_of_mem _ (ih (by rw [hh]; exact List.mem_cons_of_mem _ ha) he)
theorem altsOf_size (T : List (Option El)) : (altsOf T).length ≤ T.length + 1 ∧ ∀ a ∈ altsOf T, a.length ≤ T.length := by
 induction T with
 | nil => simp [altsOf]
 | cons x t ih => cases x with
  | none =>
   refine ⟨by simp [altsOf]; exact ih.1, fun a ha => ?_⟩
   simp only [altsOf, List.mem_cons] at ha
   rcases ha with rfl | ha
   ·simp
   ·have := ih.2 a ha; simp; omega
  | some f =>
   simp only [altsOf]
   cases hh : altsOf t with
   | nil => exact absurd hh (altsOf_ne t)
   | cons h r =>
    rw [hh] at ih
    refine ⟨by have := ih.1; simp at this ⊢; omega, fun a ha => ?_⟩
    simp only [List.mem_cons] at ha
    rcases ha with rfl | ha
    ·have := ih.2 h List.mem_cons_self; simp; exact this
    ·have := ih.2 a (List.mem_cons_of_mem _ ha); simp; omega
theorem altsP_parts {p : List UInt8} {L : List (List El)} (h : altsP p = some L) : p.length ≤ 256 ∧ p.all isText = true ∧ ∃ T, toks p = some T ∧ L = altsOf T := by
 unfold altsP at h
 split at h
 ·simp at h
 ·split at h
  ·simp at h
  ·rename_i h1 h2
   simp only [Option.map_eq_some_iff] at h
   obtain ⟨T, hT, rfl⟩ := h
   refine ⟨by omega, ?_, T, hT, rfl⟩
   have : allIn TextSet p = true := by simpa using h2
   unfold allIn at this
   rw [← this]
   exact congrArg (fun f => p.all f) (funext fun b => (text_iff b).symm)
theorem altsP_good {p : List UInt8} {L : List (List El)} (h : altsP p = some L) : L ≠ [] ∧ L.length ≤ 257 ∧ ∀ a ∈ L, a.length ≤ 256 ∧ ∀ e ∈ a, ElGood e := by
 obtain ⟨hp, ht, T, hT, rfl⟩ := altsP_parts h
 obtain ⟨g1, g2⟩ := toks_good _ p T (Nat.le_refl _) ht hT
 obtain ⟨s1, s2⟩ := altsOf_size T
 exact ⟨altsOf_ne T, by omega, fun a ha => ⟨by have := s2 a ha; omega, fun e he => g1 e (altsOf_mem ha he)⟩⟩
end Go.Proofs.YtljkljnfbcmjdaaGreatDoor.Gl
