/- What an index finds. -/
import Derived.Test.YtdlchlbngojljaaDoorPM3
import Derived.Test.YtdlchlbngojljaaDoorPShS
namespace Go.Proofs.YtdlchlbngojljaaDoor
open Go.RowKit Go.Maps Go.Sort
theorem kp_putRow (enc : Tx → Value) (w : World) (n blk off : Nat) (d : Array Tx) (os : Array Obj) : Kp [blk] w (grow (putRow enc (Sort.ahead w n) blk off d) os) := by
 refine ⟨rfl, rfl, rfl, ?_, fun k hk hn => ?_⟩
 ·rw [size_grow]
  have : (putRow enc (Sort.ahead w n) blk off d).heap.size = w.heap.size := by simp [putRow, mapBlock, Sort.ahead]
  omega
 ·have hs : (putRow enc (Sort.ahead w n) blk off d).heap.size = w.heap.size := by simp [putRow, mapBlock, Sort.ahead]
  rw [heap_grow_old _ _ (by omega)]
  have : k ≠ blk := by simpa using hn
  simp [putRow, mapBlock, Sort.ahead, Array.getElem?_modify, this.symm]
theorem kp_putRow0 (enc : Tx → Value) (w : World) (n blk off : Nat) (d : Array Tx) : Kp [blk] w (putRow enc (Sort.ahead w n) blk off d) := by
 have := kp_putRow enc w n blk off d #[]
 rwa [grow_empty] at this
theorem encStr_bs (x : Tx) : encStr x = .string (bs x) := rfl
/-- An own row of texts holds its texts, as the library says it. -/
theorem own_holds {w : World} {B : Nat} {v : Value} {l : List Tx} (h : stT.Own w B v l) (hl : 0 < l.length) : ∃ g cap, v = .slice (some ⟨g, 0, none⟩) l.length cap ∧ B ≤ g ∧ g < w.heap.size ∧ l.length ≤ cap ∧ Holds encStr w g 0 l.toArray := by
 rcases h.2 with ⟨hv, hn⟩ | ⟨g, cap, cur, hv, hB, hh, hc, hcm, hcz, ht⟩
 ·omega
 ·refine ⟨g, cap, hv, hB, block_lt hh, hc, fun j hj => ⟨?_, ?_⟩⟩
  ·have hj' : j < l.length := by simpa using hj
   have hr := RT.row_of (r := stT) (cur := cur.toList) (by rw [Array.toArray_toList]; exact hh) ht
   have h1 := st_cell hr (List.getElem?_eq_getElem hj')
   rw [h1, getElem!_pos l.toArray j hj]
   simp [encStr_bs]
  ·simp [World.frozen?, hh]
theorem holds_has {w : World} {g cap : Nat} {l : List Tx} {d : Array Tx} (h : Holds encStr w g 0 d) (hg : g < w.heap.size) (hd : ∀ j x, l[j]? = some x → j < d.size ∧ d[j]! = x) : stT.Has w (.slice (some ⟨g, 0, none⟩) l.length cap) l := by
 refine .inr ⟨g, 0, cap, rfl, hg, fun j x hx m v hm => ?_⟩
 obtain ⟨h1, h2⟩ := hd j x hx
 have h3 := (h j h1).1
 rw [h2] at h3
 match m, hm with
 | 0, hm =>
  have : v = .string (bs x) := by simpa [stT] using hm.symm
  rw [this]
  simpa [stT, encStr_bs] using h3
 | m + 1, hm => simp [stT] at hm
/-- What the contract of Match gives. -/
def MatC (hit : Tx → Tx → Bool) (w : World) (p s : Tx) : Prop := Calls Tryd.prog 20 #[.string (bs p), .string (bs s)] w fun e w' => e = .returned (.bool (hit p s)) ∧ Kp [] w w'
theorem namN_succ (hit : Tx → Tx → Bool) (E : List (Tx × Tx × Tx)) (s : Tx) (n : Nat) : namN hit E s (n + 1) = namN hit E s n ++ namK hit E s (s.take n) := by
 unfold namN
 rw [List.range_succ, List.flatMap_append]
 simp
/-- The names of the first entries at a beginning. -/
def namJ (hit : Tx → Tx → Bool) (L : List (Tx × Tx)) (s : Tx) : List Tx := (L.filter fun e => hit e.1 s).map (·.2)
theorem namJ_snoc (hit : Tx → Tx → Bool) {L : List (Tx × Tx)} {s : Tx} {j : Nat} {x : Tx × Tx} (hx : L[j]? = some x) : namJ hit (L.take (j + 1)) s = namJ hit (L.take j) s ++ if hit x.1 s then [x.2] else [] := by
 unfold namJ
 rw [List.take_add_one, hx, List.filter_append, List.map_append]
 congr 1
 by_cases h : hit x.1 s = true <;> simp [h]
theorem namJ_len (hit : Tx → Tx → Bool) (L : List (Tx × Tx)) (s : Tx) : (namJ hit L s).length ≤ L.length := by
 unfold namJ
 rw [List.length_map]
 exact List.length_filter_le _ _
theorem namN_len (hit : Tx → Tx → Bool) (E : List (Tx × Tx × Tx)) (s : Tx) : ∀ n, (namN hit E s n).length ≤ n * E.length
 | 0 => by simp [namN]
 | n + 1 => by
  have h1 := namN_len hit E s n
  have h2 : (namK hit E s (s.take n)).length ≤ E.length := Nat.le_trans (namJ_len hit (atK E (s.take n)) s) (atK_len E _)
  rw [namN_succ, List.length_append, Nat.add_mul]
  omega
theorem info65b : (Tryd.prog.info? 65).map (·.size) = some (2 : Nat) := by kernel_rfl
theorem kp_own {w W w' : World} {v : Value} (h : Kp [] w W) (g : W.grownBy w' v.ownBlock) (hv : ∀ b, v.ownBlock = some b → w.heap.size ≤ b) : Kp [] w w' :=
 ⟨g.os.trans h.os, g.tape.trans h.tape, g.output.trans h.output, Nat.le_trans h.size g.size, fun k hk _ => (g.block k (Nat.lt_of_lt_of_le hk h.size) fun e => by have := hv k e.symm; omega).trans (h.block k hk (by simp))⟩
theorem compact_len (l : List Tx) : (Lib.compact l).length ≤ l.length := by
 unfold Lib.compact Lib.compactUpTo
 rw [List.length_map]
 exact Nat.le_trans (List.length_filter_le _ _) (by simp)
theorem cat_at {l : List Tx} {j : Nat} {x : Tx} (h : l[j]? = some x) (r : List Tx) : j < (l ++ r).toArray.size ∧ (l ++ r).toArray[j]! = x := by
 obtain ⟨h1, h2⟩ := List.getElem?_eq_some_iff.1 h
 have h3 : j < (l ++ r).toArray.size := by simp; omega
 refine ⟨h3, ?_⟩
 rw [getElem!_pos (l ++ r).toArray j h3]
 simp [List.getElem_append_left h1, h2]
def IFPost (R : List Tx) (w : World) (e : Ending) (w' : World) : Prop := ∃ v, Hid (stT.HasB w.heap.size w' v R) ∧ e = .returned v ∧ Kp [] w w'
set_option maxHeartbeats 8000000 in
set_option maxRecDepth 100000 in
theorem ixFind_any {hit : Tx → Tx → Bool} {w : World} {A : Nat} {xv : Value} {E : List (Tx × Tx × Tx)} (s : Tx) (hs : s.length ≤ 4611686018427387000) (hI : IxAt A w xv E) (hE : E.length ≤ 3000)
  (hM : ∀ x ∈ E, ∀ W, Kp [] w W → MatC hit W x.2.1 s) :
  Calls Tryd.prog 14 #[xv, .string (bs s)] w (IFPost (findP hit E s) w) := by
 unfold IFPost
 obtain ⟨X, M, K, f, D, rfl, hAX, hAM, hX, hIx⟩ := hI
 by_cases hse : s.isEmpty = true
 ·have h0 : s = [] := List.isEmpty_iff.1 hse
  have hf : findP hit E s = [] := by unfold findP; rw [if_pos hse]
  rw [hf]
  have hemp : (bs s).toList.isEmpty = true := by rw [toL]; exact hse
  clear hX hIx hM hf h0 hse
  go_enter Tryd.func14, Tryd.ntmps14
  go_wp2
  go_ret
  exact ⟨_, Lib.hid ⟨.inl ⟨none, 0, rfl, rfl⟩, fun b hb => by cases hb⟩, rfl, Kp.refl [] w⟩
 ·have hf : findP hit E s = Lib.compact ((namN hit E s (min s.length 256 + 1)).mergeSort fun x y => decide (x ≤ y)) := by unfold findP; rw [if_neg hse]
  have hemp : (bs s).toList.isEmpty = false := by rw [toL]; simpa using hse
  rw [hf]
  obtain ⟨T, hT⟩ : ∃ T, min s.length 256 + 1 = T := ⟨_, rfl⟩
  rw [hT]
  have HT := Lib.hid hT
  obtain ⟨NL, hNL⟩ : ∃ l, namN hit E s T = l := ⟨_, rfl⟩
  rw [hNL]
  have HNL := Lib.hid hNL
  obtain ⟨SS, hSS⟩ : ∃ l, (NL.mergeSort fun x y => decide (x ≤ y)) = l := ⟨_, rfl⟩
  rw [hSS]
  have HSS := Lib.hid hSS
  clear hNL hSS
  have hmin : min (s.length : Int) 256 + 1 = (T : Int) := by omega
  have hT1 : T ≤ 257 := by omega
  have hTs : T ≤ s.length + 1 := by omega
  have Hmin := Lib.hid hmin
  have hsz := bs_size s
  have HX := Lib.hid hX
  have HI := Lib.hid hIx
  have HM := Lib.hid hM
  have HE := Lib.hid hE
  obtain ⟨B, hB⟩ : ∃ B, w.heap.size = B := ⟨_, rfl⟩
  rw [hB]
  have HB := Lib.hid hB
  have Hon := Lib.hid (RT.Own.nil stT w B)
  clear hX hIx hM hse hf hT hB hmin
  go_enter Tryd.func14, Tryd.ntmps14
  go_wp2
  rw [Hmin.out]
  go_loopw [5, 15] (fun s5 s15 wx => ∃ (n : Nat), n ≤ T ∧ s15 = .int .i64 (n : Int) ∧ Hid (stT.Own wx B s5 (namN hit E s n)) ∧ Hid (Kp [] w wx)) (fun _ s15 _ => T - (intOf s15).toNat)
  case atStart => exact ⟨0, by omega, rfl, Lib.hid (by simpa [namN] using RT.Own.nil stT w B), Lib.hid (Kp.refl [] w)⟩
  case round =>
   obtain ⟨n, hn, rfl, hO, hK⟩ := hrel
   by_cases hlt : n < T
   ·have hnz : (n : Int) < (T : Int) := by omega
    obtain ⟨k, hk⟩ : ∃ k, s.take n = k := ⟨_, rfl⟩
    have hkl : k.length ≤ 1000000 := by rw [← hk, List.length_take]; omega
    have hIw := HI.out.kp hK.out (by simp) (by simp)
    have hXw : wr.heap[X]? = some (.cells #[.map (some M)] 57 (0, 0)) := (hK.out.block X (block_lt HX.out) (by simp)).trans HX.out
    have cX : wr.cell? ⟨X, 0, none⟩ = some (.map (some M)) := by rw [cell_of_row _ _ _ _ _ _ hXw]; rfl
    have hex : (bs s).extract 0 n = bs k := by rw [bs_take, hk]
    have hlk : ∀ m, (Instr.lookup 55 (.map (some M)) (.string (bs k)) false).run Tryd.prog (wr.drewN m) = .ok (hdV (f k)) (wr.drewN m) := fun m => (hIw.kp ((Kp.refl [] wr).drew m) (by simp) (by simp)).look k (by omega)
    have hnb : n ≤ s.length := by omega
    have hnbz : (n : Int) ≤ (s.length : Int) := by omega
    have hrow := HI.out.row k
    obtain ⟨L, hL⟩ : ∃ L, atK E k = L := ⟨_, rfl⟩
    rw [hL] at hrow
    have hnk : namN hit E s (n + 1) = namN hit E s n ++ namJ hit L s := by rw [namN_succ, hk, ← hL]; rfl
    have hLE : ∀ x ∈ L, ∃ b, (b, x) ∈ E := fun x hx => by
     rw [← hL] at hx
     obtain ⟨t, ht, rfl⟩ := List.mem_map.1 hx
     exact ⟨t.1, (List.mem_filter.1 ht).1⟩
    have hLn : L.length ≤ 3000 := by rw [← hL]; exact Nat.le_trans (atK_len E k) hE
    have hNl := namN_len hit E s n
    have hNl2 : (namN hit E s n).length ≤ 771000 := by
     have : n * E.length ≤ 257 * 3000 := Nat.mul_le_mul (by omega) hE
     omega
    have Hnk := Lib.hid hnk
    have HLE := Lib.hid hLE
    have Hrow := Lib.hid hrow
    have HL := Lib.hid hL
    clear hIw hXw hrow hnk hLE hL hk
    have hal0 : True := trivial
    rcases Hrow.out.form2 with ⟨hv, hL0⟩ | ⟨g, cap, hv, hgA, hgl, hlc, hfz, hrw⟩
    ·rw [hv] at hlk
     have HL0 := Lib.hid hL0
     have Hal := Lib.hid hal0
     clear hv hL0 hal0
     go_wp2
     go_quiet (fail)
     go_wp2
     go_loopw [5, 27] (fun s5 s27 wx => s27 = .int .i64 0 ∧ Hid (stT.Own wx B s5 (namN hit E s n)) ∧ Hid (Kp [] w wx)) (fun _ _ _ => 0)
     case atStart => exact ⟨rfl, Lib.hid (hO.out.kp0 ((Kp.refl [] _).drew _)), Lib.hid (hK.out.drew _)⟩
     case round =>
      clear hlk cX
      obtain ⟨rfl, hO, hK⟩ := hrel
      go_wp2
      refine ⟨⟨n + 1, by omega, by go_num, Lib.hid (by rw [Hnk.out, HL0.out]; simpa [namJ] using hO.out), hK⟩, by simp [intOf]; omega⟩
    ·rw [hv] at hlk
     have Hrw := Lib.hid hrw
     have Hgl := Lib.hid hgl
     obtain ⟨J, hJ⟩ : ∃ J, L.length = J := ⟨_, rfl⟩
     rw [hJ] at hlk hLn hlc
     have HJ := Lib.hid hJ
     clear hv hrw hJ hgl hfz
     go_wp2
     go_quiet (fail)
     go_wp2
     go_loopw [5, 27] (fun s5 s27 wx => ∃ j : Nat, j ≤ J ∧ s27 = .int .i64 (j : Int) ∧ Hid (stT.Own wx B s5 (namN hit E s n ++ namJ hit (L.take j) s)) ∧ Hid (Kp [] w wx)) (fun _ s27 _ => J - (intOf s27).toNat)
     case atStart => exact ⟨0, by omega, rfl, Lib.hid (by simpa [namJ] using hO.out.kp0 ((Kp.refl [] _).drew _)), Lib.hid (hK.out.drew _)⟩
     case round =>
      clear hlk cX hO hK
      obtain ⟨j, hj, rfl, hO, hK⟩ := hrel
      by_cases hjl : j < J
      ·have hjz : (j : Int) < (J : Int) := by omega
       obtain ⟨x, hx⟩ : ∃ x, L[j]? = some x := ⟨_, List.getElem?_eq_getElem (by rw [HJ.out]; exact hjl)⟩
       have hr2 : enT.Row wr g 0 L := Hrw.out.keep (hK.out.block g Hgl.out (by simp))
       have hrx : wr.rangeAt g (0 + j * 2) (twC x).toList := hr2 j x hx
       rw [Nat.zero_add] at hrx
       have HRow := Lib.hid hrx
       obtain ⟨bb, hbE⟩ := HLE.out x (List.mem_of_getElem? hx)
       have hra := heap_alloc_last wr (.cells (twC x) 65)
       have hka := (Kp.refl [] wr).alloc (.cells (twC x) 65)
       obtain ⟨Ra, hRa⟩ : ∃ R, wr.heap.size = R := ⟨_, rfl⟩
       obtain ⟨Wa, hWa⟩ : ∃ W, wr.alloc (.cells (twC x) 65) = W := ⟨_, rfl⟩
       rw [hRa, hWa] at hra
       rw [hWa] at hka
       have c0 : Wa.cell? ⟨Ra, 0, none⟩ = some (.string (bs x.1)) := by rw [cell_of_row _ _ _ _ _ _ hra]; rfl
       have HCall := Lib.hid (HM.out (bb, x) hbE Wa (hK.out.trans hka))
       have hjn : (namN hit E s n ++ namJ hit (L.take j) s).length ≤ 900000 := by
        have h1 := namJ_len hit (L.take j) s
        have h2 := List.length_take_le j L
        rw [List.length_append]
        omega
       have Hjn := Lib.hid hjn
       have HRa := Lib.hid hRa
       have HWa := Lib.hid hWa
       have Hra := Lib.hid hra
       have HOa := Lib.hid (hO.out.kp0 hka)
       have HKa := Lib.hid (hK.out.trans hka)
       have Hsn := Lib.hid (namJ_snoc hit (s := s) hx)
       unfold MatC at HCall
       clear hr2 hrx hx hbE hra hka hRa hWa hjn hO hK
       go_upto_region 10 with (first | (refine wpList_load_mid rfl 65 _ rfl g (j * 2) rfl (twC x).toList _ HRow.out Tryd.underlying65 rfl info65b ?_) | (refine Gl.wpList_store_new wr 65 zAt (twC x) rfl _ _ rfl rfl rfl info65b rfl (twC_one x) ?_))
       rw [HRa.out, HWa.out]
       cases hh : hit x.1 s with
       | false =>
        rw [hh] at HCall
        go_wp2_with fail
        refine Calls.mono (by with_reducible exact HCall.out) ?_
        rintro e w3 ⟨rfl, hk3⟩
        have HK3 := Lib.hid hk3
        have Hhh := Lib.hid hh
        clear hk3 hh
        go_wp2
        refine ⟨⟨j + 1, by omega, by go_num, Lib.hid (by rw [Hsn.out, Hhh.out]; simpa using HOa.out.kp0 HK3.out), Lib.hid (HKa.out.trans HK3.out)⟩, by simp [intOf]; omega⟩
       | true =>
        rw [hh] at HCall
        go_wp2_with fail
        refine Calls.mono (by with_reducible exact HCall.out) ?_
        rintro e w3 ⟨rfl, hk3⟩
        have c1 : w3.cell? ⟨Ra, 1, none⟩ = some (.string (bs x.2)) := by
         rw [cell_of_row _ _ _ _ _ _ ((hk3.block Ra (block_lt Hra.out) (by simp)).trans Hra.out)]; rfl
        have hk4 := (Kp.refl [] w3).alloc (.cells #[.string (bs x.2)] 9)
        have HO4 := Lib.hid (HOa.out.kp0 (hk3.trans hk4))
        have HK4 := Lib.hid (HKa.out.trans (hk3.trans hk4))
        have Hc4 := Lib.hid (show (w3.alloc (.cells #[.string (bs x.2)] 9)).rangeAt w3.heap.size 0 (stT.cf x.2) from fun m u hm => by
         rw [Nat.zero_add, cell_of_row _ _ _ _ _ _ (heap_alloc_last w3 _)]
         simpa [stT] using hm)
        have Hhh := Lib.hid hh
        have HBs := Lib.hid (show B ≤ (w3.alloc (.cells #[.string (bs x.2)] 9)).heap.size from by have := HK4.out.size; have := HB.out; omega)
        clear hk3 hk4 hh HCall
        go_wp2_with (refine wpList_append_r (r := stT) rfl _ _ rfl B _ _ rfl HO4.out w3.heap.size 1 x.2 rfl Hc4.out (by have := Hjn.out; omega) HBs.out ?_; intro v5 w5 hown5 hgr5)
        refine ⟨⟨j + 1, by omega, by go_num, Lib.hid (by rw [Hsn.out, Hhh.out, ← List.append_assoc]; exact hown5), Lib.hid (kp_own HK4.out hgr5 (fun c hc => by have := (HO4.out.ge c hc).1; have := HB.out; omega))⟩, by simp [intOf]; omega⟩
      ·have hjz : ¬ ((j : Int) < (J : Int)) := by omega
       obtain rfl : j = J := by omega
       have hO9 := hO.out
       rw [List.take_of_length_le (by rw [HJ.out]; omega), ← Hnk.out] at hO9
       have HO9 := Lib.hid hO9
       clear hO9 hO
       go_wp2
       refine ⟨⟨n + 1, by omega, by go_num, HO9, hK⟩, by simp [intOf]; omega⟩
   ·have hnz : ¬ ((n : Int) < (T : Int)) := by omega
    obtain rfl : n = T := by omega
    have hNL := HNL.out
    have hNb : NL.length ≤ 1000000 := by
     have h1 := namN_len hit E s n
     have : n * E.length ≤ 257 * 3000 := Nat.mul_le_mul (by omega) hE
     rw [hNL] at h1
     omega
    have hO9 := hO.out
    rw [hNL] at hO9
    by_cases h0 : NL.length = 0
    ·obtain ⟨a0, c0, rfl⟩ := hO9.form
     have hN0 : NL = [] := List.length_eq_zero_iff.1 h0
     rw [h0]
     have HR := Lib.hid (show Lib.compact SS = [] by have h := compact_len SS; have h2 : SS.length = NL.length := (by rw [← HSS.out, List.length_mergeSort]); exact List.length_eq_zero_iff.1 (by omega))
     have hb0 : ∀ b, (Value.slice a0 0 c0).ownBlock = some b → B ≤ b := fun b hb => (hO9.ge b (by rw [h0]; exact hb)).1
     clear hO9 hO hNL hN0 h0
     go_wp2_with fail
     refine Calls.mono (by with_reducible exact Tryd.slices_Sort_string_none _ _ _) ?_
     rintro e w1 ⟨rfl, rfl⟩
     go_wp2_with fail
     refine Calls.mono (by with_reducible exact Tryd.slices_Compact_string_empty _ _ _) ?_
     rintro e w2 ⟨rfl, rfl⟩
     go_wp2
     go_ret
     exact ⟨_, Lib.hid (by rw [HR.out]; exact ⟨.inl ⟨_, _, rfl, rfl⟩, fun b hb => (hb0 _ hb)⟩), rfl, hK.out⟩
    ·obtain ⟨g, cap, rfl, hgB, hgl, hcap, hH⟩ := own_holds hO9 (by omega)
     have hSS := HSS.out
     have hlen : SS.length = NL.length := by rw [← hSS, List.length_mergeSort]
     have HSort := Lib.hid (Tryd.slices_Sort_string g 0 cap NL wr hH hgl (by omega))
     rw [hSS] at HSort
     have Hlen := Lib.hid hlen
     have HH := Lib.hid hH
     clear hO9 hO hNL hH hlen hSS
     go_wp2_with fail
     refine Calls.mono (by with_reducible exact HSort.out) ?_
     rintro e w1 ⟨rfl, q1, os1, hw1⟩
     have hk1 : Kp [g] wr w1 := by rw [hw1]; exact kp_putRow encStr wr q1 g 0 SS.toArray os1
     have hH1 : Holds encStr w1 g 0 SS.toArray := by
      rw [hw1]
      refine holds_grow encStr _ _ g 0 _ ?_ (holds_putRow encStr _ g 0 NL.toArray _ (holds_ahead encStr wr q1 g 0 _ HH.out) (by simpa using Hlen.out))
      have : (putRow encStr (Sort.ahead wr q1) g 0 SS.toArray).heap.size = wr.heap.size := by simp [putRow, mapBlock, Sort.ahead]
      omega
     have hC := Tryd.slices_Compact_string g 0 cap SS w1 hH1 (by have := Hlen.out; omega) (by have := Hlen.out; omega)
     rw [Hlen.out] at hC
     have HC := Lib.hid hC
     have HK1 := Lib.hid hk1
     have HH1 := Lib.hid hH1
     clear hk1 hH1 hC hw1 HSort
     go_wp2_with fail
     refine Calls.mono (by with_reducible exact HC.out) ?_
     rintro e w2 ⟨rfl, q2, hw2⟩
     have hk2 : Kp [g] w1 w2 := by rw [hw2]; exact kp_putRow0 encStr w1 q2 g 0 _
     have hcl : (Lib.compact SS).length ≤ SS.length := compact_len SS
     have hH2 : Holds encStr w2 g 0 (Lib.compact SS ++ List.replicate (NL.length - (Lib.compact SS).length) []).toArray := by
      rw [hw2]
      exact holds_putRow encStr _ g 0 SS.toArray _ (holds_ahead encStr w1 q2 g 0 _ HH1.out) (by have := Hlen.out; simp; omega)
     have hkk : Kp [] w w2 := hK.out.up (HK1.out.trans hk2) (by intro z hz; simp at hz; subst hz; exact .inr (by have := HB.out; omega))
     have hg2 : g < w2.heap.size := Nat.lt_of_lt_of_le hgl (HK1.out.trans hk2).size
     have HF := Lib.hid (show stT.HasB B w2 (.slice (some ⟨g, 0, none⟩) (Lib.compact SS).length cap) (Lib.compact SS) from ⟨holds_has hH2 hg2 (fun j x hx => cat_at hx _), fun b hb => by cases hb; exact hgB⟩)
     have HKK := Lib.hid hkk
     clear hk2 hH2 hkk hw2 hcl
     go_wp2
     go_ret
     exact ⟨_, HF, rfl, HKK.out⟩
end Go.Proofs.YtdlchlbngojljaaDoor
