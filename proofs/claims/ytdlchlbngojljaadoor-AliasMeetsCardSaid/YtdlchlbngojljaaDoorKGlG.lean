/- setBetween: the set between brackets. -/
import Derived.Test.YtdlchlbngojljaaDoorKGlF
import Derived.Test.YtdlchlbngojljaaDoorKShelf
import Derived.Deep.RegionWith
namespace Go.Proofs.YtdlchlbngojljaaDoor.Gl
open Go.RowKit
theorem memB_single (S : UInt8 → Bool) (a : UInt8) (t : List UInt8) (h : t.length < 2 ∨ t[0]? ≠ some 45) : memB S (a :: t) = memB (fun x => S x || rangeB a a x) t := by
 match t, h with
 | [], _ => rfl
 | [b], _ => rfl
 | b :: c :: u, h =>
  have hb : b ≠ 45 := by
   rcases h with h | h
   ·simp at h
    omega
   ·simpa using h
  conv => lhs; rw [memB, if_neg hb]
theorem memB_range (S : UInt8 → Bool) (a c : UInt8) (t : List UInt8) : memB S (a :: 45 :: c :: t) = if c.toNat < a.toNat then none else memB (fun x => S x || rangeB a c x) t := by
 conv => lhs; rw [memB, if_pos rfl]
def setRes : Option (UInt8 → Bool) → Value
 | some S => .tuple #[.agg (setV S), .bool true]
 | none => .tuple #[.agg (setV fun _ => false), .bool false]
theorem setV_sizes (S T : UInt8 → Bool) : (setV S).size = (setV T).size := by rw [setV_size, setV_size]
theorem zero4 : Array.replicate 4 (Value.int .u64 0) = setV fun _ => false := by
 unfold setV
 rw [wd_none, wd_none, wd_none, wd_none]
 rfl
/-- The results (an array in its cell, a bool). -/
theorem results_set {w : World} {tmps : Array Value} {g : Nat} {R : UInt8 → Bool} {ok : Bool} {fr : Nat × Nat} (hp : tmps.getD 2 undef = .pointer (some ⟨g, 0, none⟩)) (hq : tmps.getD 3 undef = .bool ok) (hg : w.heap[g]? = some (.cells (setV R) 106 fr)) :
  (results Tryd.f82 tmps).run Tryd.prog w = .ok (.tuple #[.agg (setV R), .bool ok]) w := by
 have hi : (Tryd.prog.info? 106).map (·.size) = some (setV R).size := (zero_of_info (P := Tryd.prog) info61).2
 have hl := run_loadVar_row (P := Tryd.prog) w g 106 106 (setV R) fr _ hg Tryd.underlying106 rfl hi
 have hp' : tmps[2]?.getD undef = .pointer (some ⟨g, 0, none⟩) := by simpa using hp
 have hq' : tmps[3]?.getD undef = .bool ok := by simpa using hq
 simp [results, hp', hq', asAddr, hl, Result.andThen]
theorem setB_cut (l : List UInt8) : setB l = if Lib.trimPrefix l [33] = [] then none else (memB (fun _ => false) (Lib.trimPrefix l [33])).map fun S => if Lib.hasPrefix l [33] then (fun x => isText x && !S x) else S := by
 unfold Lib.trimPrefix
 cases l with
 | nil => rfl
 | cons c r =>
  have hp : Lib.hasPrefix (c :: r) [33] = (c == 33) := by
   show ([33] : List UInt8).isPrefixOf (c :: r) = _
   simp only [List.isPrefixOf, Bool.and_true]
   rw [Bool.beq_comm]
  rw [hp, setB]
  by_cases h : c = 33
  ·subst h
   simp only [beq_self_eq_true, if_true, List.length_cons, List.length_nil, List.drop_succ_cons, List.drop_zero]
  ·have : (c == 33) = false := beq_eq_false_iff_ne.2 h
   rw [this]
   simp only [if_neg h, Bool.false_eq_true, if_false]
   rw [if_neg (by simp)]
   simp
theorem drop_data (s : ByteArray) (k : Nat) : (s.extract k s.size).data.toList = s.data.toList.drop k := by
 have := Lib.extract_toList s k s.size
 rw [Lib.toList_data] at this
 rw [this, Lib.size_eq]
 exact List.take_of_length_le (by rw [List.length_drop]; exact Nat.le_refl _)
section
variable (w : World) (o1 o2 : Obj)
theorem box2_0 : ((w.alloc o1).alloc o2).heap[w.heap.size]? = some o1 := by
 rw [Below.heap_alloc _ _ _ (by simp)]
 exact heap_alloc_last w o1
theorem box2_1 : ((w.alloc o1).alloc o2).heap[w.heap.size + 1]? = some o2 := by
 have := heap_alloc_last (w.alloc o1) o2
 rwa [show (w.alloc o1).heap.size = w.heap.size + 1 from by simp] at this
theorem box2_below : Below w.heap.size w ((w.alloc o1).alloc o2) := ((Below.refl _ w).alloc (Nat.le_refl _) _).alloc (by simp) _
end
def strSize : Value → Nat
 | .string s => s.size
 | _ => 0
theorem store4 {w : World} {b : Nat} {S R : UInt8 → Bool} (h : w.heap[b]? = some (.cells (setV S) 106 (0, 0))) : (storeCells ⟨b, 0, none⟩ (setV R).toList).run Tryd.prog w = .ok () (w.setRow b (setV R)) := by
 have := run_storeCells_from (P := Tryd.prog) b 106 (setV R).toList 0 (setV S) w h (by rw [Array.length_toList, setV_size, setV_size]) (fun v hv => (Array.all_eq_true_iff_forall_mem.1 (setV_one R)) v (by simpa using hv))
 rw [this]
 simp
structure SetW (w : World) (R : List UInt8) (tgt : Option (UInt8 → Bool)) (wx : World) : Prop where
 ex : ∃ S, wx.heap[w.heap.size + 1]? = some (.cells (setV S) 106 (0, 0)) ∧ memB S R = tgt
 res : wx.heap[w.heap.size]? = some (.cells (setV fun _ => false) 106 (0, 0))
 below : Below w.heap.size w wx
 size : wx.heap.size = w.heap.size + 2
theorem SetW.add {w wx w' : World} {R R' : List UInt8} {tgt : Option (UInt8 → Bool)} (h : SetW w R tgt wx) {S S' : UInt8 → Bool} (hS' : AddPost (w.heap.size + 1) S' wx (.returned (.tuple #[])) w') (_hS : wx.heap[w.heap.size + 1]? = some (.cells (setV S) 106 (0, 0))) (hm : memB S' R' = tgt) : SetW w R' tgt w' := by
 obtain ⟨_, h1, h2, h3⟩ := hS'
 refine ⟨⟨S', h1, hm⟩, ?_, ?_, ?_⟩
 ·rw [h2.block _ (Nat.lt_succ_self _)]; exact h.res
 ·exact h.below.trans (h2.mono (Nat.le_succ _))
 ·rw [h3]; exact h.size
set_option maxHeartbeats 400000 in
set_option maxRecDepth 100000 in
theorem setBetween_any (s : ByteArray) (w : World) (hs : s.size ≤ 4096) : Calls Tryd.prog 82 #[.string s] w (Bel (setRes (setB s.data.toList)) w) := by
 have hv := (zero_of_info (P := Tryd.prog) info61).1
 have hi := (zero_of_info (P := Tryd.prog) info61).2
 have hcut := fun W => Tryd.strings_CutPrefix s ⟨#[33]⟩ W
 have hb := setB_cut s.data.toList
 have hle : (Lib.trimPrefix s.data.toList [33]).length ≤ 4096 := by
  rw [Lib.size_eq] at hs
  unfold Lib.trimPrefix
  split
  ·rw [List.length_drop]; omega
  ·exact hs
 rw [hb]
 simp only at hcut
 clear hb
 generalize Lib.trimPrefix s.data.toList [33] = M at *
 generalize Lib.hasPrefix s.data.toList [33] = neg at *
 obtain ⟨m, hm⟩ : ∃ m : ByteArray, (⟨M.toArray⟩ : ByteArray) = m := ⟨_, rfl⟩
 have hmd : m.data.toList = M := by rw [← hm]
 rw [hm] at hcut
 have Hcut := Lib.hid hcut
 clear hcut hm hs
 by_cases hM : M = []
 ·have he := empty_form (s := m) (by rw [hmd, hM])
  rw [if_pos hM]
  have Hv := Lib.hid hM
  clear hM hmd
  go_enter Tryd.func82, Tryd.ntmps82
  go_wp2_with fail
  refine (Hcut.out _).mono ?_
  rintro e W ⟨rfl, rfl⟩
  go_wp2
  exact bodyPost_ret (results_set rfl rfl (by rw [← zero4]; exact heap_alloc_last w _)) rfl ⟨rfl, (Below.refl _ _).alloc (Nat.le_refl _) _⟩
 ·have he := nonempty_form (s := m) (by rw [hmd]; exact hM)
  rw [if_neg hM]
  go_enter Tryd.func82, Tryd.ntmps82
  go_wp2_with fail
  refine (Hcut.out _).mono ?_
  rintro e W ⟨rfl, rfl⟩
  go_wp2
  go_loopw [4] (fun s4 wx => ∃ r : ByteArray, s4 = .string r ∧ r.size ≤ 4096 ∧ SetW w r.data.toList (memB (fun _ => false) M) wx) (fun s4 _ => strSize s4)
  case atStart => exact ⟨m, rfl, by rw [Lib.size_eq, hmd]; exact hle, ⟨⟨_, by rw [← zero4]; exact box2_1 w _ _, by rw [hmd]⟩, by rw [← zero4]; exact box2_0 w _ _, box2_below w _ _, by simp⟩⟩
  case round =>
   obtain ⟨r, rfl, hrs, hset⟩ := hrel
   have Hset := Lib.hid hset
   clear hset
   by_cases hr : r.size = 0
   ·have hrd : r.data.toList = [] := List.length_eq_zero_iff.1 (by rw [← Lib.size_eq]; exact hr)
    have her := empty_form hrd
    obtain ⟨⟨S, hS, hmem⟩, hres, hbel, hsize⟩ := Hset.out
    rw [hrd] at hmem
    have hmem' : memB (fun _ => false) M = some S := hmem.symm
    have Hm := Lib.hid hmem'
    have Hbel := Lib.hid hbel
    clear hmem hmem' hbel hrd
    have hi' : (Tryd.prog.info? 106).map (·.size) = some (setV S).size := hi
    cases neg with
    | false =>
     go_wp2_with (first
      | (refine wpList_load_row rfl 106 _ rfl (w.heap.size + 1) rfl 106 _ _ _ hS Tryd.underlying106 rfl hi' ?_)
      | (refine wpList_store_row rfl 106 _ _ rfl w.heap.size (setV S) rfl rfl 106 _ hres hi' (setV_sizes _ _) (setV_one S) ?_))
     exact bodyPost_ret (results_set rfl rfl (setRow_heap wr w.heap.size _ (setV S) 106 _ hres)) rfl ⟨by rw [Hm.out]; rfl, below_setRow Hbel.out (Nat.le_refl _) _⟩
    | true =>
     have c0 := setAt4_of hS 0 (by omega)
     have c1 := setAt4_of hS 1 (by omega)
     have c2 := setAt4_of hS 2 (by omega)
     have c3 := setAt4_of hS 3 (by omega)
     rw [Nat.zero_add] at c0 c1 c2 c3
     have hbl : w.heap.size + 1 < wr.heap.size := by omega
     have HS := Lib.hid hS
     have Hres := Lib.hid hres
     have Hn := Lib.hid (without_any isText S)
     have hfn : (fun x => isText x && !S x) = (fun x => isText x && !S x) := rfl
     obtain ⟨R, hR⟩ : ∃ R : UInt8 → Bool, (fun x => isText x && !S x) = R := ⟨_, rfl⟩
     rw [hR] at Hn
     have Hst := Lib.hid (fun (W : World) (h : W.heap[w.heap.size + 1]? = some (.cells (setV S) 106 (0, 0))) => store4 (R := R) h)
     clear hS hres hfn
     go_wp2
     go_region_with (first
      | (go_at_call 80; refine (textBytes_any _).mono ?_; rintro ed W1 ⟨rfl, hbT⟩; have q0 := (hbT.cell (p := ⟨w.heap.size + 1, 0, none⟩) hbl).trans c0; have q1 := (hbT.cell (p := ⟨w.heap.size + 1, 1, none⟩) hbl).trans c1; have q2 := (hbT.cell (p := ⟨w.heap.size + 1, 2, none⟩) hbl).trans c2; have q3 := (hbT.cell (p := ⟨w.heap.size + 1, 3, none⟩) hbl).trans c3)
      | (go_at_call 98; refine (Hn.out _).mono ?_; rintro ed W2 ⟨rfl, hbW⟩; have hbb := hbT.trans (hbW.mono hbT.size); have hrow := (hbb.block (w.heap.size + 1) hbl).trans HS.out; have hst := Hst.out _ hrow; have hrs := (hbb.block w.heap.size (Nat.lt_of_succ_lt hbl)).trans Hres.out))
     all_goals
      have h6 := setRow_heap W2 (w.heap.size + 1) _ (setV R) 106 _ hrow
      have hbs : Below (w.heap.size + 1) W2 (W2.setRow (w.heap.size + 1) (setV R)) := below_setRow (Below.refl _ _) (Nat.le_refl _) _
      have h2 := (hbs.block w.heap.size (Nat.lt_succ_self _)).trans hrs
      have Hbz := Lib.hid ((Hbel.out.drew.trans (hbb.mono (B' := w.heap.size) (by show w.heap.size ≤ wr.heap.size; omega))).trans (hbs.mono (Nat.le_succ _)))
      clear hst hrow hrs hbs hbb hbT hbW q0 q1 q2 q3
      generalize W2.setRow (w.heap.size + 1) (setV R) = W3 at *
      go_wp2_with (first
       | (refine wpList_load_row rfl 106 _ rfl (w.heap.size + 1) rfl 106 _ _ _ h6 Tryd.underlying106 rfl (show (Tryd.prog.info? 106).map (·.size) = some (setV R).size from hi) ?_)
       | (refine wpList_store_row rfl 106 _ _ rfl w.heap.size (setV R) rfl rfl 106 _ h2 (show (Tryd.prog.info? 106).map (·.size) = some (setV R).size from hi) (setV_sizes _ _) (setV_one R) ?_))
      exact bodyPost_ret (results_set rfl rfl (setRow_heap W3 w.heap.size _ (setV R) 106 _ h2)) rfl ⟨by rw [Hm.out, ← hR]; rfl, below_setRow Hbz.out (Nat.le_refl _) _⟩
   ·have hpos : 0 < r.size := by omega
    have hposi : (0 : Int) < (r.size : Int) := by omega
    have her := nonempty_form (s := r) (fun h => hr (by rw [Lib.size_eq, h]; rfl))
    obtain ⟨x, hx⟩ : ∃ x : UInt8, r[0]'hpos = x := ⟨_, rfl⟩
    have hx0 : r.data.toList[0]? = some x := by rw [← hx]; exact Lib.data_getElem? r 0 hpos
    have hcons : r.data.toList = x :: r.data.toList.drop 1 := by
     have := drop_at8 hx0
     rwa [List.drop_zero] at this
    have hrd := drop_data r
    have hrst : ∀ k, 0 < k → k ≤ r.size → (r.extract k r.size).size < r.size := fun k h1 h2 => by
     rw [Lib.size_eq, hrd, List.length_drop, ← Lib.size_eq]; omega
    have Hrd := Lib.hid hrd
    have Hrst := Lib.hid hrst
    have Hcons := Lib.hid hcons
    clear hrd hrst hcons hx0
    have Hadd := Lib.hid (fun S a b W h => add_any (w.heap.size + 1) S a b W h)
    have hxi : (x.toNat : Int) < 256 := by have := UInt8.toNat_lt x; omega
    by_cases h2 : r.size ≤ 2
    ·have h2i : ¬ (r.size : Int) > 2 := by omega
     have hlt2 : (r.data.toList.drop 1).length < 2 := by rw [List.length_drop, ← Lib.size_eq]; omega
     have Hlt2 := Lib.hid hlt2
     clear hlt2
     go_wp2
     go_quiet (fail)
     go_wp2_with fail
     obtain ⟨⟨S, hS, hmem⟩, hres, hbel, hsize⟩ := Hset.out
     have hS' : (wr.drewN nq).heap[w.heap.size + 1]? = some (.cells (setV S) 106 (0, 0)) := hS
     refine (Hadd.out S x x _ hS').mono ?_
     rintro ed W2 ⟨rfl, h1, h2, h3⟩
     have Hset2 := Lib.hid (show SetW w (r.data.toList.drop 1) (memB (fun _ => false) M) W2 from by
      refine ⟨⟨_, h1, ?_⟩, ?_, ?_, ?_⟩
      ·rw [← hmem]
       conv => rhs; rw [Hcons.out]
       rw [memB_single S x _ (Or.inl Hlt2.out)]
      ·rw [h2.block _ (Nat.lt_succ_self _)]; exact hres
      ·exact (drewN_below hbel nq).trans (h2.mono (Nat.le_succ _))
      ·rw [h3]; exact hsize)
     have h1i : (1 : Int) ≤ (r.size : Int) := by omega
     clear hS hmem hres hbel hsize h1 h2 h3 hS'
     go_wp2
     exact ⟨⟨r.extract 1 r.size, rfl, Nat.le_trans (Nat.le_of_lt (Hrst.out 1 (by omega) (by omega))) hrs, by rw [Hrd.out]; exact Hset2.out⟩, Hrst.out 1 (by omega) (by omega)⟩
    ·have h2i : (r.size : Int) > 2 := by omega
     have h1s : 1 < r.size := by omega
     have h2s : 2 < r.size := by omega
     have h1si : (1 : Int) < (r.size : Int) := by omega
     have h2si : (2 : Int) < (r.size : Int) := by omega
     obtain ⟨y, hy⟩ : ∃ y : UInt8, r[1]'h1s = y := ⟨_, rfl⟩
     obtain ⟨z, hz⟩ : ∃ z : UInt8, r[2]'h2s = z := ⟨_, rfl⟩
     have hy1 : r.data.toList[1]? = some y := by rw [← hy]; exact Lib.data_getElem? r 1 h1s
     have hz2 : r.data.toList[2]? = some z := by rw [← hz]; exact Lib.data_getElem? r 2 h2s
     have hzi : (z.toNat : Int) < 256 := by have := UInt8.toNat_lt z; omega
     by_cases h45 : y = 45
     ·subst h45
      have hc3 : r.data.toList = x :: 45 :: z :: r.data.toList.drop 3 := by
       rw [← drop_at8 hz2, ← drop_at8 hy1]; exact Hcons.out
      have Hc3 := Lib.hid hc3
      clear hc3 hy1 hz2
      by_cases hxz : (x.toNat : Int) > (z.toNat : Int)
      ·have hv : memB (fun _ => false) M = none := by
        obtain ⟨⟨S, hS, hmem⟩, _⟩ := Hset.out
        rw [← hmem, Hc3.out, memB_range, if_pos (by omega)]
       have Hv := Lib.hid hv
       have hres := Hset.out.res
       have Hbel := Lib.hid Hset.out.below
       clear hv
       go_wp2
       go_quiet (fail)
       have hres' : (wr.drewN nq).heap[w.heap.size]? = some (.cells (setV fun _ => false) 106 (0, 0)) := hres
       have Hb2 := Lib.hid (drewN_below Hbel.out nq)
       clear hres
       generalize wr.drewN nq = W3 at *
       go_wp2_with (refine wpList_store_row rfl 106 _ _ rfl w.heap.size (Array.replicate 4 (.int .u64 0)) rfl rfl 106 _ hres' (by rw [Array.size_replicate]; exact hi) (sizes4 _).symm (by rw [zero4]; exact setV_one _) ?_)
       all_goals exact bodyPost_ret (results_set (R := fun _ => false) rfl rfl (by rw [← zero4]; exact setRow_heap W3 w.heap.size _ (Array.replicate 4 (.int .u64 0)) 106 _ hres')) rfl ⟨by rw [Hv.out]; rfl, below_setRow Hb2.out (Nat.le_refl _) _⟩
      ·go_wp2
       go_quiet (fail)
       go_wp2_with fail
       obtain ⟨⟨S, hS, hmem⟩, hres, hbel, hsize⟩ := Hset.out
       have hS' : (wr.drewN nq).heap[w.heap.size + 1]? = some (.cells (setV S) 106 (0, 0)) := hS
       refine (Hadd.out S x z _ hS').mono ?_
       rintro ed W2 ⟨rfl, h1, h2, h3⟩
       have Hset2 := Lib.hid (show SetW w (r.data.toList.drop 3) (memB (fun _ => false) M) W2 from by
        refine ⟨⟨_, h1, ?_⟩, ?_, ?_, ?_⟩
        ·rw [← hmem]
         conv => rhs; rw [Hc3.out]
         rw [memB_range, if_neg (by omega)]
        ·rw [h2.block _ (Nat.lt_succ_self _)]; exact hres
        ·exact (drewN_below hbel nq).trans (h2.mono (Nat.le_succ _))
        ·rw [h3]; exact hsize)
       have h3i : (3 : Int) ≤ (r.size : Int) := by omega
       clear hS hmem hres hbel hsize h1 h2 h3 hS'
       go_wp2
       exact ⟨⟨r.extract 3 r.size, rfl, Nat.le_trans (Nat.le_of_lt (Hrst.out 3 (by omega) (by omega))) hrs, by rw [Hrd.out]; exact Hset2.out⟩, Hrst.out 3 (by omega) (by omega)⟩
     ·have hne : ((y.toNat : Int) == 45) = false := beq_eq_false_iff_ne.2 fun e => h45 (UInt8.toNat_inj.1 (by simpa using (by omega : y.toNat = 45)))
      have hh : (r.data.toList.drop 1)[0]? ≠ some 45 := by
       rw [List.getElem?_drop, hy1]
       simpa using h45
      have Hh := Lib.hid hh
      clear hh hy1 hz2
      go_wp2
      go_quiet (fail)
      go_wp2_with fail
      obtain ⟨⟨S, hS, hmem⟩, hres, hbel, hsize⟩ := Hset.out
      have hS' : (wr.drewN nq).heap[w.heap.size + 1]? = some (.cells (setV S) 106 (0, 0)) := hS
      refine (Hadd.out S x x _ hS').mono ?_
      rintro ed W2 ⟨rfl, h1, h2, h3⟩
      have Hset2 := Lib.hid (show SetW w (r.data.toList.drop 1) (memB (fun _ => false) M) W2 from by
       refine ⟨⟨_, h1, ?_⟩, ?_, ?_, ?_⟩
       ·rw [← hmem]
        conv => rhs; rw [Hcons.out]
        rw [memB_single S x _ (Or.inr Hh.out)]
       ·rw [h2.block _ (Nat.lt_succ_self _)]; exact hres
       ·exact (drewN_below hbel nq).trans (h2.mono (Nat.le_succ _))
       ·rw [h3]; exact hsize)
      have h1i : (1 : Int) ≤ (r.size : Int) := by omega
      clear hS hmem hres hbel hsize h1 h2 h3 hS'
      go_wp2
      exact ⟨⟨r.extract 1 r.size, rfl, Nat.le_trans (Nat.le_of_lt (Hrst.out 1 (by omega) (by omega))) hrs, by rw [Hrd.out]; exact Hset2.out⟩, Hrst.out 1 (by omega) (by omega)⟩
end Go.Proofs.YtdlchlbngojljaaDoor.Gl
