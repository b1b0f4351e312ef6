/- setBetween: the set between brackets. firstElement: the first element of a pattern. -/
import Derived.Test.YtdlchlbngojljaaDoorPGe
import Derived.Test.YtdlchlbngojljaaDoorPShelf
import Derived.Deep.RegionWith
namespace Go.Proofs.YtdlchlbngojljaaDoor.Gl
open Go.RowKit
theorem memB_single (S : UInt8 → Bool) (a : UInt8) (t : List UInt8) (h : t.length < 2 ∨ t[0]? ≠ some 45) : memB S (a :: t) = memB (fun x => S x || rangeB a a x) t := by
 match t, h with
 | [], _ => rfl
 | [b], _ => rfl
 | b :: c :: u, h =>
  have hb : b ≠ 45 := by
   rcases h with h | h
   ·simp at h
    omega
   ·simpa using h
  conv => lhs; rw [memB, if_neg hb]
theorem memB_range (S : UInt8 → Bool) (a c : UInt8) (t : List UInt8) : memB S (a :: 45 :: c :: t) = if c.toNat < a.toNat then none else memB (fun x => S x || rangeB a c x) t := by
 conv => lhs; rw [memB, if_pos rfl]
def setRes : Option (UInt8 → Bool) → Value
 | some S => .tuple #[.agg (setV S), .bool true]
 | none => .tuple #[.agg (setV fun _ => false), .bool false]
theorem setV_sizes (S T : UInt8 → Bool) : (setV S).size = (setV T).size := by rw [setV_size, setV_size]
theorem zero4 : Array.replicate 4 (Value.int .u64 0) = setV fun _ => false := by
 unfold setV
 rw [wd_none, wd_none, wd_none, wd_none]
 rfl
/-- The results (an array in its cell, a bool). -/
theorem results_set {w : World} {tmps : Array Value} {g : Nat} {R : UInt8 → Bool} {ok : Bool} {fr : Nat × Nat} (hp : tmps.getD 2 undef = .pointer (some ⟨g, 0, none⟩)) (hq : tmps.getD 3 undef = .bool ok) (hg : w.heap[g]? = some (.cells (setV R) 106 fr)) :
  (results Tryd.f82 tmps).run Tryd.prog w = .ok (.tuple #[.agg (setV R), .bool ok]) w := by
 have hi : (Tryd.prog.info? 106).map (·.size) = some (setV R).size := (zero_of_info (P := Tryd.prog) info61).2
 have hl := run_loadVar_row (P := Tryd.prog) w g 106 106 (setV R) fr _ hg Tryd.underlying106 rfl hi
 have hp' : tmps[2]?.getD undef = .pointer (some ⟨g, 0, none⟩) := by simpa using hp
 have hq' : tmps[3]?.getD undef = .bool ok := by simpa using hq
 simp [results, hp', hq', asAddr, hl, Result.andThen]
theorem setB_cut (l : List UInt8) : setB l = if Lib.trimPrefix l [33] = [] then none else (memB (fun _ => false) (Lib.trimPrefix l [33])).map fun S => if Lib.hasPrefix l [33] then (fun x => isText x && !S x) else S := by
 unfold Lib.trimPrefix
 cases l with
 | nil => rfl
 | cons c r =>
  have hp : Lib.hasPrefix (c :: r) [33] = (c == 33) := by
   show ([33] : List UInt8).isPrefixOf (c :: r) = _
   simp only [List.isPrefixOf, Bool.and_true]
   rw [Bool.beq_comm]
  rw [hp, setB]
  by_cases h : c = 33
  ·subst h
   simp only [beq_self_eq_true, if_true, List.length_cons, List.length_nil, List.drop_succ_cons, List.drop_zero]
  ·have : (c == 33) = false := beq_eq_false_iff_ne.2 h
   rw [this]
   simp only [if_neg h, Bool.false_eq_true, if_false]
   rw [if_neg (by simp)]
   simp
theorem drop_data (s : ByteArray) (k : Nat) : (s.extract k s.size).data.toList = s.data.toList.drop k := by
 have := Lib.extract_toList s k s.size
 rw [Lib.toList_data] at this
 rw [this, Lib.size_eq]
 exact List.take_of_length_le (by rw [List.length_drop]; exact Nat.le_refl _)
section
variable (w : World) (o1 o2 : Obj)
theorem box2_0 : ((w.alloc o1).alloc o2).heap[w.heap.size]? = some o1 := by
 rw [Below.heap_alloc _ _ _ (by simp)]
 exact heap_alloc_last w o1
theorem box2_1 : ((w.alloc o1).alloc o2).heap[w.heap.size + 1]? = some o2 := by
 have := heap_alloc_last (w.alloc o1) o2
 rwa [show (w.alloc o1).heap.size = w.heap.size + 1 from by simp] at this
theorem box2_below : Below w.heap.size w ((w.alloc o1).alloc o2) := ((Below.refl _ w).alloc (Nat.le_refl _) _).alloc (by simp) _
end
def strSize : Value → Nat
 | .string s => s.size
 | _ => 0
theorem store4 {w : World} {b : Nat} {S R : UInt8 → Bool} (h : w.heap[b]? = some (.cells (setV S) 106 (0, 0))) : (storeCells ⟨b, 0, none⟩ (setV R).toList).run Tryd.prog w = .ok () (w.setRow b (setV R)) := by
 have := run_storeCells_from (P := Tryd.prog) b 106 (setV R).toList 0 (setV S) w h (by rw [Array.length_toList, setV_size, setV_size]) (fun v hv => (Array.all_eq_true_iff_forall_mem.1 (setV_one R)) v (by simpa using hv))
 rw [this]
 simp
structure SetW (w : World) (R : List UInt8) (tgt : Option (UInt8 → Bool)) (wx : World) : Prop where
 ex : ∃ S, wx.heap[w.heap.size + 1]? = some (.cells (setV S) 106 (0, 0)) ∧ memB S R = tgt
 res : wx.heap[w.heap.size]? = some (.cells (setV fun _ => false) 106 (0, 0))
 below : Below w.heap.size w wx
 size : wx.heap.size = w.heap.size + 2
theorem SetW.add {w wx w' : World} {R R' : List UInt8} {tgt : Option (UInt8 → Bool)} (h : SetW w R tgt wx) {S S' : UInt8 → Bool} (hS' : AddPost (w.heap.size + 1) S' wx (.returned (.tuple #[])) w') (_hS : wx.heap[w.heap.size + 1]? = some (.cells (setV S) 106 (0, 0))) (hm : memB S' R' = tgt) : SetW w R' tgt w' := by
 obtain ⟨_, h1, h2, h3⟩ := hS'
 refine ⟨⟨S', h1, hm⟩, ?_, ?_, ?_⟩
 ·rw [h2.block _ (Nat.lt_succ_self _)]; exact h.res
 ·exact h.below.trans (h2.mono (Nat.le_succ _))
 ·rw [h3]; exact h.size
set_option maxHeartbeats 400000 in
set_option maxRecDepth 100000 in
theorem setBetween_any (s : ByteArray) (w : World) (hs : s.size ≤ 4096) : Calls Tryd.prog 82 #[.string s] w (Bel (setRes (setB s.data.toList)) w) := by
 have hv := (zero_of_info (P := Tryd.prog) info61).1
 have hi := (zero_of_info (P := Tryd.prog) info61).2
 have hcut := fun W => Tryd.strings_CutPrefix s ⟨#[33]⟩ W
 have hb := setB_cut s.data.toList
 have hle : (Lib.trimPrefix s.data.toList [33]).length ≤ 4096 := by
  rw [Lib.size_eq] at hs
  unfold Lib.trimPrefix
  split
  ·rw [List.length_drop]; omega
  ·exact hs
 rw [hb]
 simp only at hcut
 clear hb
 generalize Lib.trimPrefix s.data.toList [33] = M at *
 generalize Lib.hasPrefix s.data.toList [33] = neg at *
 obtain ⟨m, hm⟩ : ∃ m : ByteArray, (⟨M.toArray⟩ : ByteArray) = m := ⟨_, rfl⟩
 have hmd : m.data.toList = M := by rw [← hm]
 rw [hm] at hcut
 have Hcut := Lib.hid hcut
 clear hcut hm hs
 by_cases hM : M = []
 ·have he := empty_form (s := m) (by rw [hmd, hM])
  rw [if_pos hM]
  have Hv := Lib.hid hM
  clear hM hmd
  go_enter Tryd.func82, Tryd.ntmps82
  go_wp2_with fail
  refine (Hcut.out _).mono ?_
  rintro e W ⟨rfl, rfl⟩
  go_wp2
  exact bodyPost_ret (results_set rfl rfl (by rw [← zero4]; exact heap_alloc_last w _)) rfl ⟨rfl, (Below.refl _ _).alloc (Nat.le_refl _) _⟩
 ·have he := nonempty_form (s := m) (by rw [hmd]; exact hM)
  rw [if_neg hM]
  go_enter Tryd.func82, Tryd.ntmps82
  go_wp2_with fail
  refine (Hcut.out _).mono ?_
  rintro e W ⟨rfl, rfl⟩
  go_wp2
  go_loopw [4] (fun s4 wx => ∃ r : ByteArray, s4 = .string r ∧ r.size ≤ 4096 ∧ SetW w r.data.toList (memB (fun _ => false) M) wx) (fun s4 _ => strSize s4)
  case atStart => exact ⟨m, rfl, by rw [Lib.size_eq, hmd]; exact hle, ⟨⟨_, by rw [← zero4]; exact box2_1 w _ _, by rw [hmd]⟩, by rw [← zero4]; exact box2_0 w _ _, box2_below w _ _, by simp⟩⟩
  case round =>
   obtain ⟨r, rfl, hrs, hset⟩ := hrel
   have Hset := Lib.hid hset
   clear hset
   by_cases hr : r.size = 0
   ·have hrd : r.data.toList = [] := List.length_eq_zero_iff.1 (by rw [← Lib.size_eq]; exact hr)
    have her := empty_form hrd
    obtain ⟨⟨S, hS, hmem⟩, hres, hbel, hsize⟩ := Hset.out
    rw [hrd] at hmem
    have hmem' : memB (fun _ => false) M = some S := hmem.symm
    have Hm := Lib.hid hmem'
    have Hbel := Lib.hid hbel
    clear hmem hmem' hbel hrd
    have hi' : (Tryd.prog.info? 106).map (·.size) = some (setV S).size := hi
    cases neg with
    | false =>
     go_wp2_with (first
      | (refine wpList_load_row rfl 106 _ rfl (w.heap.size + 1) rfl 106 _ _ _ hS Tryd.underlying106 rfl hi' ?_)
      | (refine wpList_store_row rfl 106 _ _ rfl w.heap.size (setV S) rfl rfl 106 _ hres hi' (setV_sizes _ _) (setV_one S) ?_))
     exact bodyPost_ret (results_set rfl rfl (setRow_heap wr w.heap.size _ (setV S) 106 _ hres)) rfl ⟨by rw [Hm.out]; rfl, below_setRow Hbel.out (Nat.le_refl _) _⟩
    | true =>
     have c0 := setAt4_of hS 0 (by omega)
     have c1 := setAt4_of hS 1 (by omega)
     have c2 := setAt4_of hS 2 (by omega)
     have c3 := setAt4_of hS 3 (by omega)
     rw [Nat.zero_add] at c0 c1 c2 c3
     have hbl : w.heap.size + 1 < wr.heap.size := by omega
     have HS := Lib.hid hS
     have Hres := Lib.hid hres
     have Hn := Lib.hid (without_any isText S)
     have hfn : (fun x => isText x && !S x) = (fun x => isText x && !S x) := rfl
     obtain ⟨R, hR⟩ : ∃ R : UInt8 → Bool, (fun x => isText x && !S x) = R := ⟨_, rfl⟩
     rw [hR] at Hn
     have Hst := Lib.hid (fun (W : World) (h : W.heap[w.heap.size + 1]? = some (.cells (setV S) 106 (0, 0))) => store4 (R := R) h)
     clear hS hres hfn
     go_wp2
     go_region_with (first
      | (go_at_call 80; refine (textBytes_any _).mono ?_; rintro ed W1 ⟨rfl, hbT⟩; have q0 := (hbT.cell (p := ⟨w.heap.size + 1, 0, none⟩) hbl).trans c0; have q1 := (hbT.cell (p := ⟨w.heap.size + 1, 1, none⟩) hbl).trans c1; have q2 := (hbT.cell (p := ⟨w.heap.size + 1, 2, none⟩) hbl).trans c2; have q3 := (hbT.cell (p := ⟨w.heap.size + 1, 3, none⟩) hbl).trans c3)
      | (go_at_call 98; refine (Hn.out _).mono ?_; rintro ed W2 ⟨rfl, hbW⟩; have hbb := hbT.trans (hbW.mono hbT.size); have hrow := (hbb.block (w.heap.size + 1) hbl).trans HS.out; have hst := Hst.out _ hrow; have hrs := (hbb.block w.heap.size (Nat.lt_of_succ_lt hbl)).trans Hres.out))
     all_goals
      have h6 := setRow_heap W2 (w.heap.size + 1) _ (setV R) 106 _ hrow
      have hbs : Below (w.heap.size + 1) W2 (W2.setRow (w.heap.size + 1) (setV R)) := below_setRow (Below.refl _ _) (Nat.le_refl _) _
      have h2 := (hbs.block w.heap.size (Nat.lt_succ_self _)).trans hrs
      have Hbz := Lib.hid ((Hbel.out.drew.trans (hbb.mono (B' := w.heap.size) (by show w.heap.size ≤ wr.heap.size; omega))).trans (hbs.mono (Nat.le_succ _)))
      clear hst hrow hrs hbs hbb hbT hbW q0 q1 q2 q3
      generalize W2.setRow (w.heap.size + 1) (setV R) = W3 at *
      go_wp2_with (first
       | (refine wpList_load_row rfl 106 _ rfl (w.heap.size + 1) rfl 106 _ _ _ h6 Tryd.underlying106 rfl (show (Tryd.prog.info? 106).map (·.size) = some (setV R).size from hi) ?_)
       | (refine wpList_store_row rfl 106 _ _ rfl w.heap.size (setV R) rfl rfl 106 _ h2 (show (Tryd.prog.info? 106).map (·.size) = some (setV R).size from hi) (setV_sizes _ _) (setV_one R) ?_))
      exact bodyPost_ret (results_set rfl rfl (setRow_heap W3 w.heap.size _ (setV R) 106 _ h2)) rfl ⟨by rw [Hm.out, ← hR]; rfl, below_setRow Hbz.out (Nat.le_refl _) _⟩
   ·have hpos : 0 < r.size := by omega
    have hposi : (0 : Int) < (r.size : Int) := by omega
    have her := nonempty_form (s := r) (fun h => hr (by rw [Lib.size_eq, h]; rfl))
    obtain ⟨x, hx⟩ : ∃ x : UInt8, r[0]'hpos = x := ⟨_, rfl⟩
    have hx0 : r.data.toList[0]? = some x := by rw [← hx]; exact Lib.data_getElem? r 0 hpos
    have hcons : r.data.toList = x :: r.data.toList.drop 1 := by
     have := drop_at8 hx0
     rwa [List.drop_zero] at this
    have hrd := drop_data r
    have hrst : ∀ k, 0 < k → k ≤ r.size → (r.extract k r.size).size < r.size := fun k h1 h2 => by
     rw [Lib.size_eq, hrd, List.length_drop, ← Lib.size_eq]; omega
    have Hrd := Lib.hid hrd
    have Hrst := Lib.hid hrst
    have Hcons := Lib.hid hcons
    clear hrd hrst hcons hx0
    have Hadd := Lib.hid (fun S a b W h => add_any (w.heap.size + 1) S a b W h)
    have hxi : (x.toNat : Int) < 256 := by have := UInt8.toNat_lt x; omega
    by_cases h2 : r.size ≤ 2
    ·have h2i : ¬ (r.size : Int) > 2 := by omega
     have hlt2 : (r.data.toList.drop 1).length < 2 := by rw [List.length_drop, ← Lib.size_eq]; omega
     have Hlt2 := Lib.hid hlt2
     clear hlt2
     go_wp2
     go_quiet (fail)
     go_wp2_with fail
     obtain ⟨⟨S, hS, hmem⟩, hres, hbel, hsize⟩ := Hset.out
     have hS' : (wr.drewN nq).heap[w.heap.size + 1]? = some (.cells (setV S) 106 (0, 0)) := hS
     refine (Hadd.out S x x _ hS').mono ?_
     rintro ed W2 ⟨rfl, h1, h2, h3⟩
     have Hset2 := Lib.hid (show SetW w (r.data.toList.drop 1) (memB (fun _ => false) M) W2 from by
      refine ⟨⟨_, h1, ?_⟩, ?_, ?_, ?_⟩
      ·rw [← hmem]
       conv => rhs; rw [Hcons.out]
       rw [memB_single S x _ (Or.inl Hlt2.out)]
      ·rw [h2.block _ (Nat.lt_succ_self _)]; exact hres
      ·exact (drewN_below hbel nq).trans (h2.mono (Nat.le_succ _))
      ·rw [h3]; exact hsize)
     have h1i : (1 : Int) ≤ (r.size : Int) := by omega
     clear hS hmem hres hbel hsize h1 h2 h3 hS'
     go_wp2
     exact ⟨⟨r.extract 1 r.size, rfl, Nat.le_trans (Nat.le_of_lt (Hrst.out 1 (by omega) (by omega))) hrs, by rw [Hrd.out]; exact Hset2.out⟩, Hrst.out 1 (by omega) (by omega)⟩
    ·have h2i : (r.size : Int) > 2 := by omega
     have h1s : 1 < r.size := by omega
     have h2s : 2 < r.size := by omega
     have h1si : (1 : Int) < (r.size : Int) := by omega
     have h2si : (2 : Int) < (r.size : Int) := by omega
     obtain ⟨y, hy⟩ : ∃ y : UInt8, r[1]'h1s = y := ⟨_, rfl⟩
     obtain ⟨z, hz⟩ : ∃ z : UInt8, r[2]'h2s = z := ⟨_, rfl⟩
     have hy1 : r.data.toList[1]? = some y := by rw [← hy]; exact Lib.data_getElem? r 1 h1s
     have hz2 : r.data.toList[2]? = some z := by rw [← hz]; exact Lib.data_getElem? r 2 h2s
     have hzi : (z.toNat : Int) < 256 := by have := UInt8.toNat_lt z; omega
     by_cases h45 : y = 45
     ·subst h45
      have hc3 : r.data.toList = x :: 45 :: z :: r.data.toList.drop 3 := by
       rw [← drop_at8 hz2, ← drop_at8 hy1]; exact Hcons.out
      have Hc3 := Lib.hid hc3
      clear hc3 hy1 hz2
      by_cases hxz : (x.toNat : Int) > (z.toNat : Int)
      ·have hv : memB (fun _ => false) M = none := by
        obtain ⟨⟨S, hS, hmem⟩, _⟩ := Hset.out
        rw [← hmem, Hc3.out, memB_range, if_pos (by omega)]
       have Hv := Lib.hid hv
       have hres := Hset.out.res
       have Hbel := Lib.hid Hset.out.below
       clear hv
       go_wp2
       go_quiet (fail)
       have hres' : (wr.drewN nq).heap[w.heap.size]? = some (.cells (setV fun _ => false) 106 (0, 0)) := hres
       have Hb2 := Lib.hid (drewN_below Hbel.out nq)
       clear hres
       generalize wr.drewN nq = W3 at *
       go_wp2_with (refine wpList_store_row rfl 106 _ _ rfl w.heap.size (Array.replicate 4 (.int .u64 0)) rfl rfl 106 _ hres' (by rw [Array.size_replicate]; exact hi) (sizes4 _).symm (by rw [zero4]; exact setV_one _) ?_)
       all_goals exact bodyPost_ret (results_set (R := fun _ => false) rfl rfl (by rw [← zero4]; exact setRow_heap W3 w.heap.size _ (Array.replicate 4 (.int .u64 0)) 106 _ hres')) rfl ⟨by rw [Hv.out]; rfl, below_setRow Hb2.out (Nat.le_refl _) _⟩
      ·go_wp2
       go_quiet (fail)
       go_wp2_with fail
       obtain ⟨⟨S, hS, hmem⟩, hres, hbel, hsize⟩ := Hset.out
       have hS' : (wr.drewN nq).heap[w.heap.size + 1]? = some (.cells (setV S) 106 (0, 0)) := hS
       refine (Hadd.out S x z _ hS').mono ?_
       rintro ed W2 ⟨rfl, h1, h2, h3⟩
       have Hset2 := Lib.hid (show SetW w (r.data.toList.drop 3) (memB (fun _ => false) M) W2 from by
        refine ⟨⟨_, h1, ?_⟩, ?_, ?_, ?_⟩
        ·rw [← hmem]
         conv => rhs; rw [Hc3.out]
         rw [memB_range, if_neg (by omega)]
        ·rw [h2.block _ (Nat.lt_succ_self _)]; exact hres
        ·exact (drewN_below hbel nq).trans (h2.mono (Nat.le_succ _))
        ·rw [h3]; exact hsize)
       have h3i : (3 : Int) ≤ (r.size : Int) := by omega
       clear hS hmem hres hbel hsize h1 h2 h3 hS'
       go_wp2
       exact ⟨⟨r.extract 3 r.size, rfl, Nat.le_trans (Nat.le_of_lt (Hrst.out 3 (by omega) (by omega))) hrs, by rw [Hrd.out]; exact Hset2.out⟩, Hrst.out 3 (by omega) (by omega)⟩
     ·have hne : ((y.toNat : Int) == 45) = false := beq_eq_false_iff_ne.2 fun e => h45 (UInt8.toNat_inj.1 (by simpa using (by omega : y.toNat = 45)))
      have hh : (r.data.toList.drop 1)[0]? ≠ some 45 := by
       rw [List.getElem?_drop, hy1]
       simpa using h45
      have Hh := Lib.hid hh
      clear hh hy1 hz2
      go_wp2
      go_quiet (fail)
      go_wp2_with fail
      obtain ⟨⟨S, hS, hmem⟩, hres, hbel, hsize⟩ := Hset.out
      have hS' : (wr.drewN nq).heap[w.heap.size + 1]? = some (.cells (setV S) 106 (0, 0)) := hS
      refine (Hadd.out S x x _ hS').mono ?_
      rintro ed W2 ⟨rfl, h1, h2, h3⟩
      have Hset2 := Lib.hid (show SetW w (r.data.toList.drop 1) (memB (fun _ => false) M) W2 from by
       refine ⟨⟨_, h1, ?_⟩, ?_, ?_, ?_⟩
       ·rw [← hmem]
        conv => rhs; rw [Hcons.out]
        rw [memB_single S x _ (Or.inr Hh.out)]
       ·rw [h2.block _ (Nat.lt_succ_self _)]; exact hres
       ·exact (drewN_below hbel nq).trans (h2.mono (Nat.le_succ _))
       ·rw [h3]; exact hsize)
      have h1i : (1 : Int) ≤ (r.size : Int) := by omega
      clear hS hmem hres hbel hsize h1 h2 h3 hS'
      go_wp2
      exact ⟨⟨r.extract 1 r.size, rfl, Nat.le_trans (Nat.le_of_lt (Hrst.out 1 (by omega) (by omega))) hrs, by rw [Hrd.out]; exact Hset2.out⟩, Hrst.out 1 (by omega) (by omega)⟩
end Go.Proofs.YtdlchlbngojljaaDoor.Gl
namespace Go.Proofs.YtdlchlbngojljaaDoor.Gl
open Go.RowKit
/-- The six cells of an element. -/
def elV (e : El) : Array Value := #[.int .u64 (wd e.set 0), .int .u64 (wd e.set 1), .int .u64 (wd e.set 2), .int .u64 (wd e.set 3), .bool e.star, .bool e.self]
theorem elV_size (e : El) : (elV e).size = 6 := rfl
theorem elV_one (e : El) : (elV e).all (·.oneCell') = true := by simp [elV, Value.oneCell']
def fstRes : Option (El × Nat) → Value
 | some (e, k) => .tuple #[.agg (elV e), .int .i64 ((k : Int) + 1)]
 | none => .tuple #[.agg (elV ⟨false, false, fun _ => false⟩), .int .i64 0]
theorem info63 : (Tryd.prog.info? 108).map (fun i => (i.zero, i.size)) = some (some (.agg (#[.int .u64 0, .int .u64 0, .int .u64 0, .int .u64 0, .bool false, .bool false])), 6) := by kernel_rfl
theorem results_fst {w : World} {tmps : Array Value} {g : Nat} {e : El} {k : Int} {fr : Nat × Nat} (hp : tmps.getD 2 undef = .pointer (some ⟨g, 0, none⟩)) (hq : tmps.getD 3 undef = .int .i64 k) (hg : w.heap[g]? = some (.cells (elV e) 108 fr)) :
  (results Tryd.f55 tmps).run Tryd.prog w = .ok (.tuple #[.agg (elV e), .int .i64 k]) w := by
 have hi : (Tryd.prog.info? 108).map (·.size) = some (elV e).size := (zero_of_info (P := Tryd.prog) info63).2
 have hl := run_loadVar_row (P := Tryd.prog) w g 108 108 (elV e) fr _ hg Tryd.underlying108 rfl hi
 have hp' : tmps[2]?.getD undef = .pointer (some ⟨g, 0, none⟩) := by simpa using hp
 have hq' : tmps[3]?.getD undef = .int .i64 k := by simpa using hq
 simp [results, hp', hq', asAddr, hl, Result.andThen]
theorem byte_ne {x : UInt8} {k : Nat} (hk : k < 256) (h : x ≠ UInt8.ofNat k) : ((x.toNat : Int) == (k : Int)) = false := by
 rw [beq_eq_false_iff_ne]
 intro e
 apply h
 apply UInt8.toNat_inj.1
 simp
 omega
theorem elV_zero : (#[.int .u64 0, .int .u64 0, .int .u64 0, .int .u64 0, .bool false, .bool false] : Array Value) = elV ⟨false, false, fun _ => false⟩ := by
 unfold elV
 simp only [wd_none]
 rfl
set_option maxHeartbeats 400000 in
set_option maxRecDepth 100000 in
theorem first_text (s : ByteArray) (c : UInt8) (st : Bool) (w : World) (hs : s.size ≤ 4096) (hpos : 0 < s.size) (hc : s[0] = c) (hcs : (c = 42 ∧ st = true) ∨ (c = 63 ∧ st = false)) :
  Calls Tryd.prog 55 #[.string s] w (Bel (.tuple #[.agg (elV ⟨st, false, isText⟩), .int .i64 1]) w) := by
 have hv := (zero_of_info (P := Tryd.prog) info63).1
 have hi := (zero_of_info (P := Tryd.prog) info63).2
 have ht := textBytes_any
 obtain ⟨E, hE⟩ : ∃ E : El, (⟨st, false, isText⟩ : El) = E := ⟨_, rfl⟩
 have hVE : elV E = #[.int .u64 (wd isText 0), .int .u64 (wd isText 1), .int .u64 (wd isText 2), .int .u64 (wd isText 3), .bool st, .bool false] := by rw [← hE]; rfl
 rw [hE]
 unfold setV at ht
 generalize ((wd isText 0 : Nat) : Int) = a0 at *
 generalize ((wd isText 1 : Nat) : Int) = a1 at *
 generalize ((wd isText 2 : Nat) : Int) = a2 at *
 generalize ((wd isText 3 : Nat) : Int) = a3 at *
 have Ht := Lib.hid ht
 have hposi : (0 : Int) < (s.size : Int) := by omega
 clear ht hE
 rcases hcs with ⟨rfl, rfl⟩ | ⟨rfl, rfl⟩
 ·go_enter Tryd.func55, Tryd.ntmps55
  go_wp2_with fail
  refine (Ht.out _).mono ?_
  rintro ed W1 ⟨rfl, hb⟩
  have h0 := heap_new_below hb
  have hbl := below_new hb
  go_wp2_with (refine wpList_store_row rfl 108 _ _ rfl w.heap.size #[.int .u64 a0, .int .u64 a1, .int .u64 a2, .int .u64 a3, .bool true, .bool false] rfl rfl 108 _ h0 hi rfl (by simp [Value.oneCell']) ?_)
  exact bodyPost_ret (results_fst (e := E) rfl rfl (by rw [hVE]; exact setRow_heap W1 w.heap.size _ _ 108 _ h0)) rfl ⟨rfl, below_setRow hbl (Nat.le_refl _) _⟩
 ·go_enter Tryd.func55, Tryd.ntmps55
  go_wp2_with fail
  refine (Ht.out _).mono ?_
  rintro ed W1 ⟨rfl, hb⟩
  have h0 := heap_new_below hb
  have hbl := below_new hb
  go_wp2_with (refine wpList_store_row rfl 108 _ _ rfl w.heap.size #[.int .u64 a0, .int .u64 a1, .int .u64 a2, .int .u64 a3, .bool false, .bool false] rfl rfl 108 _ h0 hi rfl (by simp [Value.oneCell']) ?_)
  exact bodyPost_ret (results_fst (e := E) rfl rfl (by rw [hVE]; exact setRow_heap W1 w.heap.size _ _ 108 _ h0)) rfl ⟨rfl, below_setRow hbl (Nat.le_refl _) _⟩
/-- Where the first "]" stands behind a "[". -/
theorem index_open {s : ByteArray} {r : List UInt8} (h : s.data.toList = 91 :: r) : Lib.indexByte s.data.toList 93 = if r.contains 93 then ((r.idxOf 93 : Nat) : Int) + 1 else -1 := by
 rw [h]
 have key : ∀ l : List UInt8, Lib.indexByte l 93 = if l.contains 93 then ((l.idxOf 93 : Nat) : Int) else -1 := by
  intro l
  induction l with
  | nil => rfl
  | cons b l ih =>
   rw [Lib.indexByte, ih]
   by_cases hb : b = 93
   ·subst hb; simp
   ·have h1 : (b == 93) = false := beq_eq_false_iff_ne.2 hb
    have h2 : ((93 : UInt8) == b) = false := beq_eq_false_iff_ne.2 fun e => hb e.symm
    rw [List.contains_cons, h1, h2, Bool.false_or, List.idxOf_cons, h1]
    simp only [Bool.false_eq_true, if_false, cond_false]
    by_cases hc : l.contains 93 = true
    ·rw [if_pos hc, if_pos hc, if_neg (by simp <;> omega)]
     simp
    ·rw [if_neg hc, if_neg hc]; rfl
 rw [key, List.contains_cons, List.idxOf_cons]
 rw [show ((93 : UInt8) == 91) = false from rfl, show ((91 : UInt8) == 93) = false from rfl, Bool.false_or]
 simp only [cond_false]
 split <;> simp
theorem extract_mid (s : ByteArray) (c : UInt8) (r : List UInt8) (n : Nat) (h : s.data.toList = c :: r) : (s.extract 1 (n + 1)).data.toList = r.take n := by
 have := Lib.extract_toList s 1 (n + 1)
 rw [Lib.toList_data] at this
 rw [this, h]
 simp
set_option maxHeartbeats 400000 in
set_option maxRecDepth 100000 in
theorem first_set (s : ByteArray) (r : List UInt8) (w : World) (hs : s.size ≤ 4096) (hpos : 0 < s.size) (hc : s[0] = 91) (hsr : s.data.toList = 91 :: r) :
  Calls Tryd.prog 55 #[.string s] w (Bel (fstRes (firstEl 91 r)) w) := by
 have hv := (zero_of_info (P := Tryd.prog) info63).1
 have hi := (zero_of_info (P := Tryd.prog) info63).2
 have hv1 := (zero_of_info (P := Tryd.prog) info61).1
 have hi1 := (zero_of_info (P := Tryd.prog) info61).2
 have hposi : (0 : Int) < (s.size : Int) := by omega
 have hix := fun W => Tryd.strings_IndexByte s 93 W
 rw [show ((93 : Int).toNat.toUInt8) = (93 : UInt8) from rfl, index_open hsr] at hix
 have hfe : firstEl 91 r = if r.contains 93 then (setB (r.take (r.idxOf 93))).map fun S => (⟨false, false, S⟩, r.idxOf 93 + 1) else none := rfl
 rw [hfe]
 have hsz : s.size = r.length + 1 := by rw [Lib.size_eq, hsr]; rfl
 by_cases hr : r.contains 93 = true
 ·rw [if_pos hr] at hix ⊢
  have hidx : r.idxOf 93 < r.length := List.idxOf_lt_length_iff.2 (by simpa using hr)
  have hmid := extract_mid s 91 r (r.idxOf 93) hsr
  generalize r.idxOf 93 = n at *
  have hset := fun W h => setBetween_any (s.extract 1 (n + 1)) W h
  rw [hmid] at hset
  obtain ⟨m, hm⟩ : ∃ m, s.extract 1 (n + 1) = m := ⟨_, rfl⟩
  have hml : m.size ≤ 4096 := by
   rw [← hm, Lib.size_eq, hmid, List.length_take]; omega
  have hni : (n : Int) + 1 < (s.size : Int) := by omega
  rw [hm] at hset
  have Hset := Lib.hid (fun W => hset W hml)
  have Hix := Lib.hid hix
  clear hset hix hmid hfe hr hml
  cases hsb : setB (r.take n) with
  | none =>
   rw [hsb] at Hset
   go_enter Tryd.func55, Tryd.ntmps55
   go_wp2_with fail
   refine (Hix.out _).mono ?_
   rintro ed W1 ⟨rfl, rfl⟩
   go_wp2_with fail
   refine (Hset.out _).mono ?_
   rintro ed W1 ⟨rfl, hb⟩
   have h0 := heap_new_below hb
   have hbl := below_new hb
   clear hb
   simp only [setRes, ← zero4]
   have h0a : ∀ o, (W1.alloc o).heap[w.heap.size]? = _ := fun o => (Below.heap_alloc W1 o w.heap.size (Array.getElem?_eq_some_iff.1 h0).1).trans h0
   have hba : ∀ o, Below w.heap.size w (W1.alloc o) := fun o => hbl.alloc hbl.size o
   have H0a := Lib.hid h0a
   have Hba := Lib.hid hba
   clear h0 hbl h0a hba
   go_wp2_with (refine wpList_store_row rfl 108 _ _ rfl w.heap.size #[.int .u64 0, .int .u64 0, .int .u64 0, .int .u64 0, .bool false, .bool false] rfl rfl 108 _ (H0a.out _) hi rfl (by simp [Value.oneCell']) ?_)
   exact bodyPost_ret (results_fst (e := ⟨false, false, fun _ => false⟩) rfl rfl (by rw [← elV_zero]; exact setRow_heap _ w.heap.size _ _ 108 _ (H0a.out _))) rfl ⟨rfl, below_setRow (Hba.out _) (Nat.le_refl _) _⟩
  | some S =>
   rw [hsb] at Hset
   have hVE : elV ⟨false, false, S⟩ = #[.int .u64 (wd S 0), .int .u64 (wd S 1), .int .u64 (wd S 2), .int .u64 (wd S 3), .bool false, .bool false] := rfl
   obtain ⟨E, hE⟩ : ∃ E : El, (⟨false, false, S⟩ : El) = E := ⟨_, rfl⟩
   simp only [Option.map_some]
   rw [hE] at hVE ⊢
   have HVE := Lib.hid hVE
   clear hVE hE
   go_enter Tryd.func55, Tryd.ntmps55
   go_wp2_with fail
   refine (Hix.out _).mono ?_
   rintro ed W1 ⟨rfl, rfl⟩
   go_wp2_with fail
   refine (Hset.out _).mono ?_
   rintro ed W1 ⟨rfl, hb⟩
   have h0 := heap_new_below hb
   have hbl := below_new hb
   simp only [setRes, setV]
   have hVE := HVE.out
   generalize ((wd S 0 : Nat) : Int) = a0 at *
   generalize ((wd S 1 : Nat) : Int) = a1 at *
   generalize ((wd S 2 : Nat) : Int) = a2 at *
   generalize ((wd S 3 : Nat) : Int) = a3 at *
   have HVE := Lib.hid hVE
   have h0a : ∀ o, (W1.alloc o).heap[w.heap.size]? = _ := fun o => (Below.heap_alloc W1 o w.heap.size (Array.getElem?_eq_some_iff.1 h0).1).trans h0
   have hba : ∀ o, Below w.heap.size w (W1.alloc o) := fun o => hbl.alloc hbl.size o
   have H0a := Lib.hid h0a
   have Hba := Lib.hid hba
   clear hb hVE h0 hbl h0a hba
   go_wp2_with (refine wpList_store_row rfl 108 _ _ rfl w.heap.size #[.int .u64 a0, .int .u64 a1, .int .u64 a2, .int .u64 a3, .bool false, .bool false] rfl rfl 108 _ (H0a.out _) hi rfl (by simp [Value.oneCell']) ?_)
   exact bodyPost_ret (results_fst (e := E) rfl rfl (by rw [HVE.out]; exact setRow_heap _ w.heap.size _ _ 108 _ (H0a.out _))) rfl ⟨rfl, below_setRow (Hba.out _) (Nat.le_refl _) _⟩
 ·rw [if_neg hr] at hix ⊢
  have Hix := Lib.hid hix
  clear hix hfe hr hsr hsz
  go_enter Tryd.func55, Tryd.ntmps55
  go_wp2_with fail
  refine (Hix.out _).mono ?_
  rintro ed W1 ⟨rfl, rfl⟩
  go_wp2
  refine bodyPost_ret (results_fst (e := ⟨false, false, fun _ => false⟩) (fr := (0, 0)) rfl rfl ?_) rfl ⟨rfl, (Below.refl _ _).alloc (Nat.le_refl _) _⟩
  rw [← elV_zero]
  exact heap_alloc_last w _
end Go.Proofs.YtdlchlbngojljaaDoor.Gl
