/- compile: the walk. -/
import Derived.Test.YtdlchlbngojljaaDoorKGlJ
namespace Go.Proofs.YtdlchlbngojljaaDoor.Gl
open Go.RowKit
theorem info42 : (Tryd.prog.info? 78).map (fun i => (i.zero, i.size, i.bytes)) = some (some (.slice none 0 0), 1, 24) := by kernel_rfl
theorem info63b : (Tryd.prog.info? 108).map (fun i => (i.zero, i.size, i.bytes)) = some (some (.agg (#[.int .u64 0, .int .u64 0, .int .u64 0, .int .u64 0, .bool false, .bool false])), 6, 40) := by kernel_rfl
theorem firstEl_le {c : UInt8} {r : List UInt8} {e : El} {k : Nat} (h : firstEl c r = some (e, k)) : k ≤ r.length := by
 unfold firstEl at h
 split at h
 ·simp at h; omega
 ·split at h
  ·simp at h; omega
  ·split at h
   ·split at h
    ·rename_i hc
     have hidx : r.idxOf 93 < r.length := List.idxOf_lt_length_iff.2 (by simpa using hc)
     simp only [Option.map_eq_some_iff, Prod.mk.injEq] at h
     obtain ⟨_, _, _, rfl⟩ := h
     exact hidx
    ·simp at h
   ·simp at h; omega
theorem cell_six_new (w : World) (c : Array Value) (t : TypeId) : ∀ j u, c.toList[j]? = some u → (w.alloc (.cells c t)).cell? ((⟨w.heap.size, 0, none⟩ : Addr).add j) = some u := by
 intro j u h
 have hadd : (⟨w.heap.size, 0, none⟩ : Addr).add j = ⟨w.heap.size, j, none⟩ := by unfold Addr.add; split <;> simp_all
 rw [hadd, cell_of_row _ _ j _ _ _ (heap_alloc_last w (.cells c t))]
 simpa using h
def CompPost (p : List UInt8) (w : World) (e : Ending) (w' : World) : Prop := Below w.heap.size w w' ∧
 if 256 < p.length then e = .returned (.tuple #[.slice none 0 0, .int .i64 21])
 else if allIn TextSet p = false then e = .returned (.tuple #[.slice none 0 0, .int .i64 20])
 else match toks p with
  | none => e = .returned (.tuple #[.slice none 0 0, .int .i64 20])
  | some T => ∃ v, e = .returned (.tuple #[v, .int .i64 0]) ∧ AltsAt w' v (altsOf T)
set_option maxHeartbeats 400000 in
set_option maxRecDepth 100000 in
theorem compile_any (p : ByteArray) (w : World) (hp : p.size ≤ 4611686018427387904) : Calls Tryd.prog 35 #[.string p] w (CompPost p.data.toList w) := by
 have hsz := Lib.size_eq p
 by_cases h256 : 256 < p.size
 ·have hi : (p.size : Int) > 256 := by omega
  have hv : ∀ e w', Below w.heap.size w w' → e = .returned (.tuple #[.slice none 0 0, .int .i64 21]) → CompPost p.data.toList w e w' := fun e w' h1 h2 => ⟨h1, by rw [if_pos (by rw [← hsz]; exact h256)]; exact h2⟩
  have Hv := Lib.hid hv
  clear hv hsz
  go_enter Tryd.func35, Tryd.ntmps35
  go_wp2
  go_ret2
  exact Hv.out _ _ (Below.refl _ _) rfl
 ·have hi : ¬ (p.size : Int) > 256 := by omega
  have htx := fun W => text_any p W hp
  have htb : textB p.data.toList = allIn TextSet p.data.toList := by
   unfold textB
   rw [decide_eq_true (by rw [← hsz]; omega), Bool.true_and]
  rw [htb] at htx
  cases hall : allIn TextSet p.data.toList with
  | false =>
   have hv : ∀ e w', Below w.heap.size w w' → e = .returned (.tuple #[.slice none 0 0, .int .i64 20]) → CompPost p.data.toList w e w' := fun e w' h1 h2 => ⟨h1, by rw [if_neg (by rw [← hsz]; exact h256), if_pos hall]; exact h2⟩
   rw [hall] at htx
   have Hv := Lib.hid hv
   have Htx := Lib.hid htx
   clear hv hsz htx htb hall
   go_enter Tryd.func35, Tryd.ntmps35
   go_wp2_with fail
   refine (Htx.out _).mono ?_
   rintro ed W1 ⟨rfl, hb⟩
   go_wp2
   go_ret2
   exact Hv.out _ _ hb rfl
  | true =>
   have hv : ∀ e w', Below w.heap.size w w' → (match toks p.data.toList with | none => e = .returned (.tuple #[.slice none 0 0, .int .i64 20]) | some T => ∃ v, e = .returned (.tuple #[v, .int .i64 0]) ∧ AltsAt w' v (altsOf T)) → CompPost p.data.toList w e w' := fun e w' h1 h2 => ⟨h1, by rw [if_neg (by rw [← hsz]; exact h256), if_neg (by rw [hall]; simp)]; exact h2⟩
   rw [hall] at htx
   have Hv := Lib.hid hv
   have Htx := Lib.hid htx
   have hpl : p.data.toList.length ≤ 256 := by rw [← hsz]; omega
   clear hv hsz htx htb hall
   obtain ⟨i0, hi0, hz0, hz1, hz2⟩ := info_parts info42
   obtain ⟨i3, hi3, hy0, hy1, hy2⟩ := info_parts info63b
   have hv63 := (zero_of_info (P := Tryd.prog) info63).1
   go_enter Tryd.func35, Tryd.ntmps35
   go_wp2_with fail
   refine (Htx.out _).mono ?_
   rintro ed W1 ⟨rfl, hb⟩
   obtain ⟨w2, hrun, hown, hg⟩ := run_make_own W1 W1.heap.size 78 108 i3 _ 6 Tryd.underlying78 hi3 hy0 hy1 .i64 .i64 p.size (by rw [hy2]; omega) (by unfold maxLen; omega) (Nat.le_refl _)
   have Hfirst := Lib.hid (CompInv.first hb hown hg)
   clear hb hown hg
   go_wp2
   go_loopw [0, 4] (fun s0 s4 wx => ∃ (q : ByteArray) (T : List (Option El)) (A : List (List El)) (l : List El) (vs : List Value) (vl : Value) (B' G cap : Nat), s0 = .string q ∧ s4 = .slice (some ⟨G, 0, none⟩) (A.length + 1) cap ∧ altsOf T = A ++ [l] ∧ CompInv w B' G cap A l vs vl wx ∧ (toks q.data.toList).map (T ++ ·) = toks p.data.toList ∧ q.size ≤ 256 ∧ A.length + 1 + q.size ≤ 257 ∧ l.length + q.size ≤ 256) (fun s0 _ _ => strSize s0)
   case atStart => exact ⟨p, [], [], [], [], _, _, _, 1, rfl, rfl, rfl, Hfirst.out, by cases toks p.data.toList <;> simp, by omega, by simp; omega, by simp; omega⟩
   case round =>
    obtain ⟨q, T, A, l, vs, vl, B', G, cap, rfl, rfl, halts, hinv, htoks, hq, hA, hl⟩ := hrel
    have Hinv := Lib.hid hinv
    clear hinv
    have hqs := Lib.size_eq q
    cases hqd : q.data.toList with
    | nil =>
     have he := empty_form hqd
     have hT : toks p.data.toList = some T := by rw [← htoks, hqd]; show (some []).map _ = _; simp
     have hfin : CompPost p.data.toList w (.returned (.tuple #[.slice (some ⟨G, 0, none⟩) (A.length + 1) cap, .int .i64 0])) wr := Hv.out _ _ Hinv.out.below (by rw [hT]; exact ⟨_, rfl, by rw [halts]; exact Hinv.out.alts⟩)
     have Hfin := Lib.hid hfin
     clear hT hfin htoks hqd hqs halts
     go_wp2
     go_ret2
     exact Hfin.out
    | cons c r =>
     have hne := nonempty_form (s := q) (by rw [hqd]; simp)
     have hqpos : 0 < q.size := by rw [hqs, hqd]; simp
     have hqposi : (0 : Int) < (q.size : Int) := by omega
     have hc0 : q[0]'hqpos = c := by
      have := Lib.data_getElem? q 0 hqpos
      rw [hqd] at this
      simpa using this.symm
     have hci : (c.toNat : Int) < 256 := by have := UInt8.toNat_lt c; omega
     have hdrop := drop_data q
     rw [hqd] at htoks hdrop
     rw [toks_cons] at htoks
     by_cases hbar : c = 124
     ·subst hbar
      rw [if_pos rfl] at htoks
      have hnext : (toks r).map ((T ++ [none]) ++ ·) = toks p.data.toList := by
       rw [← htoks]
       cases toks r <;> simp
      have halts2 : altsOf (T ++ [none]) = (A ++ [l]) ++ [[]] := by rw [altsOf_none, halts]; rfl
      have hq1 : (q.extract 1 q.size).data.toList = r := by rw [hdrop 1]; rfl
      have hq1s : (q.extract 1 q.size).size = q.size - 1 := by rw [Lib.size_eq, hq1, hqs, hqd]; simp
      have h1i : (1 : Int) ≤ (q.size : Int) := by omega
      have Hnext := Lib.hid hnext
      have Halts2 := Lib.hid halts2
      have Hq1 := Lib.hid hq1
      have Hq1s := Lib.hid hq1s
      clear hnext halts2 hq1 hq1s htoks halts hdrop hqd hqs
      go_wp2_with (at_builtin; refine wpList_append_own _ rfl _ _ 73 rfl w.heap.size 78 i0 _ 1 24 Tryd.underlying73 hi0 hz0 hz1 hz2 rfl (by decide) _ _ _ rfl (Hinv.out.outer.alloc _) ⟨wr.heap.size, 0, none⟩ 1 1 [.slice none 0 0] rfl rfl (cell_one_new _ _ _) (by simp [Value.oneCell']) (by unfold maxLen; omega) (by omega) (Nat.le_trans Hinv.out.below.size (by simp)) ?_; intro v' w1 hown' hgrow _; have Hbar := Lib.hid (Hinv.out.bar hown' hgrow); clear hown' hgrow)
      obtain ⟨G', cap', rfl, hinv'⟩ := Hbar.out
      have hqd' := Hq1.out
      have hqs' := Hq1s.out
      exact ⟨⟨q.extract 1 q.size, T ++ [none], A ++ [l], [], vs ++ [vl], .slice none 0 0, _, G', cap', rfl, rfl, Halts2.out, hinv', by rw [hqd']; exact Hnext.out, by omega, by simp; omega, by simp; omega⟩, by show (q.extract 1 q.size).size < q.size; omega⟩
     ·have hnb := byte_ne (x := c) (k := 124) (by omega) hbar
      rw [if_neg hbar] at htoks
      have hfe := fun W => firstElement_any q c r W (by omega) hqd
      cases hfr : firstEl c r with
      | none =>
       rw [hfr] at htoks hfe
       simp only [Option.map_none] at htoks
       have Hv2 := Lib.hid (fun w' (hb : Below w.heap.size w w') => Hv.out _ w' hb (by rw [← htoks]))
       have Hfe := Lib.hid hfe
       have Hbel := Lib.hid Hinv.out.below
       clear htoks hfe hqd hqs halts hdrop hfr
       go_wp2_with fail
       refine (Hfe.out _).mono ?_
       rintro ed W2 ⟨rfl, hb2⟩
       have Hb2 := Lib.hid (Hbel.out.trans (hb2.mono Hbel.out.size))
       clear hb2
       simp only [fstRes, ← elV_zero]
       go_wp2
       go_ret2
       exact Hv2.out _ (Hb2.out.alloc Hb2.out.size _)
      | some ek =>
       obtain ⟨e, k⟩ := ek
       have hkle := firstEl_le hfr
       rw [hfr] at htoks hfe
       simp only at htoks
       have hnext : (toks (r.drop k)).map ((T ++ [some e]) ++ ·) = toks p.data.toList := by
        rw [← htoks]
        cases toks (r.drop k) <;> simp
       have halts2 : altsOf (T ++ [some e]) = A ++ [l ++ [e]] := by
        rw [altsOf_some, halts]
        simp [snocLast]
       have hrl : r.length + 1 = q.size := by rw [hqs, hqd]; simp
       have hq1 : (q.extract (k + 1) q.size).data.toList = r.drop k := by rw [hdrop (k + 1)]; rfl
       have hq1s : (q.extract (k + 1) q.size).size = q.size - (k + 1) := by rw [Lib.size_eq, hq1, List.length_drop]; omega
       have hki : (k : Int) + 1 ≤ (q.size : Int) := by omega
       have hk0 : ((k : Int) + 1 == 0) = false := by rw [beq_eq_false_iff_ne]; omega
       have hVE : (elV e).toList = [.int .u64 (wd e.set 0), .int .u64 (wd e.set 1), .int .u64 (wd e.set 2), .int .u64 (wd e.set 3), .bool e.star, .bool e.self] := rfl
       simp only [fstRes, elV] at hfe
       generalize ((wd e.set 0 : Nat) : Int) = a0 at *
       generalize ((wd e.set 1 : Nat) : Int) = a1 at *
       generalize ((wd e.set 2 : Nat) : Int) = a2 at *
       generalize ((wd e.set 3 : Nat) : Int) = a3 at *
       generalize e.star = b4 at *
       generalize e.self = b5 at *
       have HVE := Lib.hid hVE
       have Hfe := Lib.hid hfe
       have Hnext := Lib.hid hnext
       have Halts2 := Lib.hid halts2
       have Hq1 := Lib.hid hq1
       have Hq1s := Lib.hid hq1s
       clear hVE htoks hfe hqd hqs halts hdrop hfr hnext halts2 hq1 hq1s
       go_wp2_with fail
       refine (Hfe.out _).mono ?_
       rintro ed W2 ⟨rfl, hb2⟩
       have Hinv2 := Lib.hid (Hinv.out.later hb2)
       clear hb2
       go_wp2_with (refine wpList_store_new W2 108 _ #[.int .u64 a0, .int .u64 a1, .int .u64 a2, .int .u64 a3, .bool b4, .bool b5] rfl _ _ rfl rfl rfl (zero_of_info (P := Tryd.prog) info63).2 rfl (by simp [Value.oneCell']) ?_)
       have h5 := heap_alloc_last W2 (.cells #[.int .u64 a0, .int .u64 a1, .int .u64 a2, .int .u64 a3, .bool b4, .bool b5] 108)
       have hb3 : Below W2.heap.size W2 (W2.alloc (.cells #[.int .u64 a0, .int .u64 a1, .int .u64 a2, .int .u64 a3, .bool b4, .bool b5] 108)) := (Below.refl _ _).alloc (Nat.le_refl _) _
       have hlt5 : W2.heap.size < (W2.alloc (.cells #[.int .u64 a0, .int .u64 a1, .int .u64 a2, .int .u64 a3, .bool b4, .bool b5] 108)).heap.size := by simp
       obtain ⟨b5k, hb5k⟩ : ∃ n, W2.heap.size = n := ⟨_, rfl⟩
       have hinv3 := Hinv2.out.later hb3
       rw [hb5k] at h5 hlt5 ⊢
       clear hb3
       generalize W2.alloc (.cells #[.int .u64 a0, .int .u64 a1, .int .u64 a2, .int .u64 a3, .bool b4, .bool b5] 108) = W3 at *
       have hinvd : CompInv w B' G cap A l vs vl W3.drew := hinv3.later (Below.refl _ _).drew
       have Hinvd := Lib.hid hinvd
       have d0 := cell_of_row W3 b5k 0 _ _ _ h5
       have d1 := cell_of_row W3 b5k 1 _ _ _ h5
       have d2 := cell_of_row W3 b5k 2 _ _ _ h5
       have d3 := cell_of_row W3 b5k 3 _ _ _ h5
       have d4 := cell_of_row W3 b5k 4 _ _ _ h5
       have d5 := cell_of_row W3 b5k 5 _ _ _ h5
       have hGlt : G < W3.heap.size := (hinv3.outer.lt G rfl).2
       have dG : W3.cell? ⟨G, A.length, none⟩ = some vl := by
        rw [hinv3.outer.cellAt A.length (by omega), ← hinv3.len]; simp
       have hB3 : B' ≤ W3.heap.size := hinv3.B2
       have hl3 : l.length + 1 ≤ maxLen := by unfold maxLen; omega
       simp only [List.getElem?_toArray, List.getElem?_cons_zero, List.getElem?_cons_succ] at d0 d1 d2 d3 d4 d5
       have hlA : (A.length : Int) < (A.length : Int) + 1 := by omega
       clear hinv3 hinvd h5
       go_region_law (refine step_append_own rfl (.tmp 43) (.tmp 45) 78 rfl B' 108 i3 _ 6 40 Tryd.underlying78 hi3 hy0 hy1 hy2 rfl (by decide) vl l.length (elVs l) rfl (Hinvd.out.last.alloc _) ⟨W3.heap.size, 0, none⟩ 1 1 [.int .u64 a0, .int .u64 a1, .int .u64 a2, .int .u64 a3, .bool b4, .bool b5] rfl rfl (cell_six_new _ _ _) (by simp [Value.oneCell']) hl3 (by omega) (Nat.le_trans hB3 (by simp)) ?_; intro v' w' hown hgrow; obtain ⟨gn, capn, hvn, _, _⟩ := form_some hown (Nat.succ_pos _); subst hvn; rw [← HVE.out] at hown; have Hel := Lib.hid (Hinvd.out.elem hown hgrow); have hcn := Hel.out.2.1; have hfn := Hel.out.2.2; clear hown hgrow)
       all_goals
        have hqd' := Hq1.out
        have hqs' := Hq1s.out
        go_wp2
        exact ⟨⟨q.extract (k + 1) q.size, T ++ [some e], A, l ++ [e], vs, _, _, G, cap, rfl, rfl, Halts2.out, Hel.out.1, by rw [hqd']; exact Hnext.out, by omega, by omega, by simp; omega⟩, by show (q.extract (k + 1) q.size).size < q.size; omega⟩
end Go.Proofs.YtdlchlbngojljaaDoor.Gl
