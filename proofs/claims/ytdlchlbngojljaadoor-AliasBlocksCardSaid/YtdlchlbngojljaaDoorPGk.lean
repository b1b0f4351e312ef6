/- compile: the walk. Check, and what a pattern's alternatives are. -/
import Derived.Test.YtdlchlbngojljaaDoorPGi
namespace Go.Proofs.YtdlchlbngojljaaDoor.Gl
open Go.RowKit
theorem info42 : (Tryd.prog.info? 78).map (fun i => (i.zero, i.size, i.bytes)) = some (some (.slice none 0 0), 1, 24) := by kernel_rfl
theorem info63b : (Tryd.prog.info? 108).map (fun i => (i.zero, i.size, i.bytes)) = some (some (.agg (#[.int .u64 0, .int .u64 0, .int .u64 0, .int .u64 0, .bool false, .bool false])), 6, 40) := by kernel_rfl
theorem firstEl_le {c : UInt8} {r : List UInt8} {e : El} {k : Nat} (h : firstEl c r = some (e, k)) : k ≤ r.length := by
 unfold firstEl at h
 split at h
 ·simp at h; omega
 ·split at h
  ·simp at h; omega
  ·split at h
   ·split at h
    ·rename_i hc
     have hidx : r.idxOf 93 < r.length := List.idxOf_lt_length_iff.2 (by simpa using hc)
     simp only [Option.map_eq_some_iff, Prod.mk.injEq] at h
     obtain ⟨_, _, _, rfl⟩ := h
     exact hidx
    ·simp at h
   ·simp at h; omega
theorem cell_six_new (w : World) (c : Array Value) (t : TypeId) : ∀ j u, c.toList[j]? = some u → (w.alloc (.cells c t)).cell? ((⟨w.heap.size, 0, none⟩ : Addr).add j) = some u := by
 intro j u h
 have hadd : (⟨w.heap.size, 0, none⟩ : Addr).add j = ⟨w.heap.size, j, none⟩ := by unfold Addr.add; split <;> simp_all
 rw [hadd, cell_of_row _ _ j _ _ _ (heap_alloc_last w (.cells c t))]
 simpa using h
def CompPost (p : List UInt8) (w : World) (e : Ending) (w' : World) : Prop := Below w.heap.size w w' ∧
 if 256 < p.length then e = .returned (.tuple #[.slice none 0 0, .int .i64 21])
 else if allIn TextSet p = false then e = .returned (.tuple #[.slice none 0 0, .int .i64 20])
 else match toks p with
  | none => e = .returned (.tuple #[.slice none 0 0, .int .i64 20])
  | some T => ∃ v, e = .returned (.tuple #[v, .int .i64 0]) ∧ AltsAt w' v (altsOf T)
set_option maxHeartbeats 400000 in
set_option maxRecDepth 100000 in
theorem compile_any (p : ByteArray) (w : World) (hp : p.size ≤ 4611686018427387904) : Calls Tryd.prog 35 #[.string p] w (CompPost p.data.toList w) := by
 have hsz := Lib.size_eq p
 by_cases h256 : 256 < p.size
 ·have hi : (p.size : Int) > 256 := by omega
  have hv : ∀ e w', Below w.heap.size w w' → e = .returned (.tuple #[.slice none 0 0, .int .i64 21]) → CompPost p.data.toList w e w' := fun e w' h1 h2 => ⟨h1, by rw [if_pos (by rw [← hsz]; exact h256)]; exact h2⟩
  have Hv := Lib.hid hv
  clear hv hsz
  go_enter Tryd.func35, Tryd.ntmps35
  go_wp2
  go_ret2
  exact Hv.out _ _ (Below.refl _ _) rfl
 ·have hi : ¬ (p.size : Int) > 256 := by omega
  have htx := fun W => text_any p W hp
  have htb : textB p.data.toList = allIn TextSet p.data.toList := by
   unfold textB
   rw [decide_eq_true (by rw [← hsz]; omega), Bool.true_and]
  rw [htb] at htx
  cases hall : allIn TextSet p.data.toList with
  | false =>
   have hv : ∀ e w', Below w.heap.size w w' → e = .returned (.tuple #[.slice none 0 0, .int .i64 20]) → CompPost p.data.toList w e w' := fun e w' h1 h2 => ⟨h1, by rw [if_neg (by rw [← hsz]; exact h256), if_pos hall]; exact h2⟩
   rw [hall] at htx
   have Hv := Lib.hid hv
   have Htx := Lib.hid htx
   clear hv hsz htx htb hall
   go_enter Tryd.func35, Tryd.ntmps35
   go_wp2_with fail
   refine (Htx.out _).mono ?_
   rintro ed W1 ⟨rfl, hb⟩
   go_wp2
   go_ret2
   exact Hv.out _ _ hb rfl
  | true =>
   have hv : ∀ e w', Below w.heap.size w w' → (match toks p.data.toList with | none => e = .returned (.tuple #[.slice none 0 0, .int .i64 20]) | some T => ∃ v, e = .returned (.tuple #[v, .int .i64 0]) ∧ AltsAt w' v (altsOf T)) → CompPost p.data.toList w e w' := fun e w' h1 h2 => ⟨h1, by rw [if_neg (by rw [← hsz]; exact h256), if_neg (by rw [hall]; simp)]; exact h2⟩
   rw [hall] at htx
   have Hv := Lib.hid hv
   have Htx := Lib.hid htx
   have hpl : p.data.toList.length ≤ 256 := by rw [← hsz]; omega
   clear hv hsz htx htb hall
   obtain ⟨i0, hi0, hz0, hz1, hz2⟩ := info_parts info42
   obtain ⟨i3, hi3, hy0, hy1, hy2⟩ := info_parts info63b
   have hv63 := (zero_of_info (P := Tryd.prog) info63).1
   go_enter Tryd.func35, Tryd.ntmps35
   go_wp2_with fail
   refine (Htx.out _).mono ?_
   rintro ed W1 ⟨rfl, hb⟩
   obtain ⟨w2, hrun, hown, hg⟩ := run_make_own W1 W1.heap.size 78 108 i3 _ 6 Tryd.underlying78 hi3 hy0 hy1 .i64 .i64 p.size (by rw [hy2]; omega) (by unfold maxLen; omega) (Nat.le_refl _)
   have Hfirst := Lib.hid (CompInv.first hb hown hg)
   clear hb hown hg
   go_wp2
   go_loopw [0, 4] (fun s0 s4 wx => ∃ (q : ByteArray) (T : List (Option El)) (A : List (List El)) (l : List El) (vs : List Value) (vl : Value) (B' G cap : Nat), s0 = .string q ∧ s4 = .slice (some ⟨G, 0, none⟩) (A.length + 1) cap ∧ altsOf T = A ++ [l] ∧ CompInv w B' G cap A l vs vl wx ∧ (toks q.data.toList).map (T ++ ·) = toks p.data.toList ∧ q.size ≤ 256 ∧ A.length + 1 + q.size ≤ 257 ∧ l.length + q.size ≤ 256) (fun s0 _ _ => strSize s0)
   case atStart => exact ⟨p, [], [], [], [], _, _, _, 1, rfl, rfl, rfl, Hfirst.out, by cases toks p.data.toList <;> simp, by omega, by simp; omega, by simp; omega⟩
   case round =>
    obtain ⟨q, T, A, l, vs, vl, B', G, cap, rfl, rfl, halts, hinv, htoks, hq, hA, hl⟩ := hrel
    have Hinv := Lib.hid hinv
    clear hinv
    have hqs := Lib.size_eq q
    cases hqd : q.data.toList with
    | nil =>
     have he := empty_form hqd
     have hT : toks p.data.toList = some T := by rw [← htoks, hqd]; show (some []).map _ = _; simp
     have hfin : CompPost p.data.toList w (.returned (.tuple #[.slice (some ⟨G, 0, none⟩) (A.length + 1) cap, .int .i64 0])) wr := Hv.out _ _ Hinv.out.below (by rw [hT]; exact ⟨_, rfl, by rw [halts]; exact Hinv.out.alts⟩)
     have Hfin := Lib.hid hfin
     clear hT hfin htoks hqd hqs halts
     go_wp2
     go_ret2
     exact Hfin.out
    | cons c r =>
     have hne := nonempty_form (s := q) (by rw [hqd]; simp)
     have hqpos : 0 < q.size := by rw [hqs, hqd]; simp
     have hqposi : (0 : Int) < (q.size : Int) := by omega
     have hc0 : q[0]'hqpos = c := by
      have := Lib.data_getElem? q 0 hqpos
      rw [hqd] at this
      simpa using this.symm
     have hci : (c.toNat : Int) < 256 := by have := UInt8.toNat_lt c; omega
     have hdrop := drop_data q
     rw [hqd] at htoks hdrop
     rw [toks_cons] at htoks
     by_cases hbar : c = 124
     ·subst hbar
      rw [if_pos rfl] at htoks
      have hnext : (toks r).map ((T ++ [none]) ++ ·) = toks p.data.toList := by
       rw [← htoks]
       cases toks r <;> simp
      have halts2 : altsOf (T ++ [none]) = (A ++ [l]) ++ [[]] := by rw [altsOf_none, halts]; rfl
      have hq1 : (q.extract 1 q.size).data.toList = r := by rw [hdrop 1]; rfl
      have hq1s : (q.extract 1 q.size).size = q.size - 1 := by rw [Lib.size_eq, hq1, hqs, hqd]; simp
      have h1i : (1 : Int) ≤ (q.size : Int) := by omega
      have Hnext := Lib.hid hnext
      have Halts2 := Lib.hid halts2
      have Hq1 := Lib.hid hq1
      have Hq1s := Lib.hid hq1s
      clear hnext halts2 hq1 hq1s htoks halts hdrop hqd hqs
      go_wp2_with (at_builtin; refine wpList_append_own _ rfl _ _ 73 rfl w.heap.size 78 i0 _ 1 24 Tryd.underlying73 hi0 hz0 hz1 hz2 rfl (by decide) _ _ _ rfl (Hinv.out.outer.alloc _) ⟨wr.heap.size, 0, none⟩ 1 1 [.slice none 0 0] rfl rfl (cell_one_new _ _ _) (by simp [Value.oneCell']) (by unfold maxLen; omega) (by omega) (Nat.le_trans Hinv.out.below.size (by simp)) ?_; intro v' w1 hown' hgrow _; have Hbar := Lib.hid (Hinv.out.bar hown' hgrow); clear hown' hgrow)
      obtain ⟨G', cap', rfl, hinv'⟩ := Hbar.out
      have hqd' := Hq1.out
      have hqs' := Hq1s.out
      exact ⟨⟨q.extract 1 q.size, T ++ [none], A ++ [l], [], vs ++ [vl], .slice none 0 0, _, G', cap', rfl, rfl, Halts2.out, hinv', by rw [hqd']; exact Hnext.out, by omega, by simp; omega, by simp; omega⟩, by show (q.extract 1 q.size).size < q.size; omega⟩
     ·have hnb := byte_ne (x := c) (k := 124) (by omega) hbar
      rw [if_neg hbar] at htoks
      have hfe := fun W => firstElement_any q c r W (by omega) hqd
      cases hfr : firstEl c r with
      | none =>
       rw [hfr] at htoks hfe
       simp only [Option.map_none] at htoks
       have Hv2 := Lib.hid (fun w' (hb : Below w.heap.size w w') => Hv.out _ w' hb (by rw [← htoks]))
       have Hfe := Lib.hid hfe
       have Hbel := Lib.hid Hinv.out.below
       clear htoks hfe hqd hqs halts hdrop hfr
       go_wp2_with fail
       refine (Hfe.out _).mono ?_
       rintro ed W2 ⟨rfl, hb2⟩
       have Hb2 := Lib.hid (Hbel.out.trans (hb2.mono Hbel.out.size))
       clear hb2
       simp only [fstRes, ← elV_zero]
       go_wp2
       go_ret2
       exact Hv2.out _ (Hb2.out.alloc Hb2.out.size _)
      | some ek =>
       obtain ⟨e, k⟩ := ek
       have hkle := firstEl_le hfr
       rw [hfr] at htoks hfe
       simp only at htoks
       have hnext : (toks (r.drop k)).map ((T ++ [some e]) ++ ·) = toks p.data.toList := by
        rw [← htoks]
        cases toks (r.drop k) <;> simp
       have halts2 : altsOf (T ++ [some e]) = A ++ [l ++ [e]] := by
        rw [altsOf_some, halts]
        simp [snocLast]
       have hrl : r.length + 1 = q.size := by rw [hqs, hqd]; simp
       have hq1 : (q.extract (k + 1) q.size).data.toList = r.drop k := by rw [hdrop (k + 1)]; rfl
       have hq1s : (q.extract (k + 1) q.size).size = q.size - (k + 1) := by rw [Lib.size_eq, hq1, List.length_drop]; omega
       have hki : (k : Int) + 1 ≤ (q.size : Int) := by omega
       have hk0 : ((k : Int) + 1 == 0) = false := by rw [beq_eq_false_iff_ne]; omega
       have hVE : (elV e).toList = [.int .u64 (wd e.set 0), .int .u64 (wd e.set 1), .int .u64 (wd e.set 2), .int .u64 (wd e.set 3), .bool e.star, .bool e.self] := rfl
       simp only [fstRes, elV] at hfe
       generalize ((wd e.set 0 : Nat) : Int) = a0 at *
       generalize ((wd e.set 1 : Nat) : Int) = a1 at *
       generalize ((wd e.set 2 : Nat) : Int) = a2 at *
       generalize ((wd e.set 3 : Nat) : Int) = a3 at *
       generalize e.star = b4 at *
       generalize e.self = b5 at *
       have HVE := Lib.hid hVE
       have Hfe := Lib.hid hfe
       have Hnext := Lib.hid hnext
       have Halts2 := Lib.hid halts2
       have Hq1 := Lib.hid hq1
       have Hq1s := Lib.hid hq1s
       clear hVE htoks hfe hqd hqs halts hdrop hfr hnext halts2 hq1 hq1s
       go_wp2_with fail
       refine (Hfe.out _).mono ?_
       rintro ed W2 ⟨rfl, hb2⟩
       have Hinv2 := Lib.hid (Hinv.out.later hb2)
       clear hb2
       go_wp2_with (refine wpList_store_new W2 108 _ #[.int .u64 a0, .int .u64 a1, .int .u64 a2, .int .u64 a3, .bool b4, .bool b5] rfl _ _ rfl rfl rfl (zero_of_info (P := Tryd.prog) info63).2 rfl (by simp [Value.oneCell']) ?_)
       have h5 := heap_alloc_last W2 (.cells #[.int .u64 a0, .int .u64 a1, .int .u64 a2, .int .u64 a3, .bool b4, .bool b5] 108)
       have hb3 : Below W2.heap.size W2 (W2.alloc (.cells #[.int .u64 a0, .int .u64 a1, .int .u64 a2, .int .u64 a3, .bool b4, .bool b5] 108)) := (Below.refl _ _).alloc (Nat.le_refl _) _
       have hlt5 : W2.heap.size < (W2.alloc (.cells #[.int .u64 a0, .int .u64 a1, .int .u64 a2, .int .u64 a3, .bool b4, .bool b5] 108)).heap.size := by simp
       obtain ⟨b5k, hb5k⟩ : ∃ n, W2.heap.size = n := ⟨_, rfl⟩
       have hinv3 := Hinv2.out.later hb3
       rw [hb5k] at h5 hlt5 ⊢
       clear hb3
       generalize W2.alloc (.cells #[.int .u64 a0, .int .u64 a1, .int .u64 a2, .int .u64 a3, .bool b4, .bool b5] 108) = W3 at *
       have hinvd : CompInv w B' G cap A l vs vl W3.drew := hinv3.later (Below.refl _ _).drew
       have Hinvd := Lib.hid hinvd
       have d0 := cell_of_row W3 b5k 0 _ _ _ h5
       have d1 := cell_of_row W3 b5k 1 _ _ _ h5
       have d2 := cell_of_row W3 b5k 2 _ _ _ h5
       have d3 := cell_of_row W3 b5k 3 _ _ _ h5
       have d4 := cell_of_row W3 b5k 4 _ _ _ h5
       have d5 := cell_of_row W3 b5k 5 _ _ _ h5
       have hGlt : G < W3.heap.size := (hinv3.outer.lt G rfl).2
       have dG : W3.cell? ⟨G, A.length, none⟩ = some vl := by
        rw [hinv3.outer.cellAt A.length (by omega), ← hinv3.len]; simp
       have hB3 : B' ≤ W3.heap.size := hinv3.B2
       have hl3 : l.length + 1 ≤ maxLen := by unfold maxLen; omega
       simp only [List.getElem?_toArray, List.getElem?_cons_zero, List.getElem?_cons_succ] at d0 d1 d2 d3 d4 d5
       have hlA : (A.length : Int) < (A.length : Int) + 1 := by omega
       clear hinv3 hinvd h5
       go_region_law (refine step_append_own rfl (.tmp 43) (.tmp 45) 78 rfl B' 108 i3 _ 6 40 Tryd.underlying78 hi3 hy0 hy1 hy2 rfl (by decide) vl l.length (elVs l) rfl (Hinvd.out.last.alloc _) ⟨W3.heap.size, 0, none⟩ 1 1 [.int .u64 a0, .int .u64 a1, .int .u64 a2, .int .u64 a3, .bool b4, .bool b5] rfl rfl (cell_six_new _ _ _) (by simp [Value.oneCell']) hl3 (by omega) (Nat.le_trans hB3 (by simp)) ?_; intro v' w' hown hgrow; obtain ⟨gn, capn, hvn, _, _⟩ := form_some hown (Nat.succ_pos _); subst hvn; rw [← HVE.out] at hown; have Hel := Lib.hid (Hinvd.out.elem hown hgrow); have hcn := Hel.out.2.1; have hfn := Hel.out.2.2; clear hown hgrow)
       all_goals
        have hqd' := Hq1.out
        have hqs' := Hq1s.out
        go_wp2
        exact ⟨⟨q.extract (k + 1) q.size, T ++ [some e], A, l ++ [e], vs, _, _, G, cap, rfl, rfl, Halts2.out, Hel.out.1, by rw [hqd']; exact Hnext.out, by omega, by omega, by simp; omega⟩, by show (q.extract (k + 1) q.size).size < q.size; omega⟩
end Go.Proofs.YtdlchlbngojljaaDoor.Gl
namespace Go.Proofs.YtdlchlbngojljaaDoor.Gl
open Go.RowKit
/-- The alternatives of a pattern, and the error of a text that is none. -/
def altsP (p : List UInt8) : Option (List (List El)) := if 256 < p.length then none else if allIn TextSet p = false then none else (toks p).map altsOf
def errP (p : List UInt8) : Int := if 256 < p.length then 21 else if (altsP p).isSome then 0 else 20
theorem errP_some {p : List UInt8} {L : List (List El)} (h : altsP p = some L) : errP p = 0 := by
 unfold errP
 rw [h]
 unfold altsP at h
 split at h
 ·simp at h
 ·rename_i h1
  rw [if_neg h1]
  rfl
theorem errP_none {p : List UInt8} (h : altsP p = none) : errP p = 20 ∨ errP p = 21 := by
 unfold errP
 rw [h]
 split
 ·exact Or.inr rfl
 ·exact Or.inl rfl
def CPost (p : List UInt8) (w : World) (e : Ending) (w' : World) : Prop := Below w.heap.size w w' ∧ match altsP p with
 | none => e = .returned (.tuple #[.slice none 0 0, .int .i64 (errP p)])
 | some L => ∃ v, e = .returned (.tuple #[v, .int .i64 0]) ∧ AltsAt w' v L
theorem comp_any (p : ByteArray) (w : World) (hp : p.size ≤ 4611686018427387904) : Calls Tryd.prog 35 #[.string p] w (CPost p.data.toList w) := by
 refine (compile_any p w hp).mono ?_
 rintro e w' ⟨hb, h⟩
 refine ⟨hb, ?_⟩
 unfold errP altsP
 split at h
 ·rename_i h1
  simp only [if_pos h1]
  exact h
 ·rename_i h1
  simp only [if_neg h1]
  split at h
  ·rename_i h2
   simp only [if_pos h2]
   exact h
  ·rename_i h2
   simp only [if_neg h2]
   cases ht : toks p.data.toList with
   | none => rw [ht] at h; exact h
   | some T => rw [ht] at h; exact h
theorem comp_none {p : ByteArray} (h : altsP p.data.toList = none) (hp : p.size ≤ 4611686018427387904) (w : World) : Calls Tryd.prog 35 #[.string p] w (Bel (.tuple #[.slice none 0 0, .int .i64 (errP p.data.toList)]) w) := by
 refine (comp_any p w hp).mono ?_
 rintro e w' ⟨hb, h1⟩
 rw [h] at h1
 exact ⟨h1, hb⟩
theorem comp_some {p : ByteArray} {L : List (List El)} (h : altsP p.data.toList = some L) (hp : p.size ≤ 4611686018427387904) (w : World) : Calls Tryd.prog 35 #[.string p] w (fun e w' => Below w.heap.size w w' ∧ ∃ v, e = .returned (.tuple #[v, .int .i64 0]) ∧ AltsAt w' v L) := by
 refine (comp_any p w hp).mono ?_
 rintro e w' ⟨hb, h1⟩
 rw [h] at h1
 exact ⟨hb, h1⟩
theorem text_iff (b : UInt8) : TextSet.contains b = isText b := by
 have := forall_u8 (p := fun b => TextSet.contains b == isText b) (by decide +kernel) b
 simpa using this
/-- The sets of a pattern have bytes of texts only. -/
def okSet (S : UInt8 → Bool) : Prop := ∀ b, S b = true → isText b = true
theorem range_ok {a c : UInt8} (ha : isText a = true) (hc : isText c = true) : okSet (rangeB a c) := by
 intro b hb
 unfold isText rangeB at *
 simp only [Bool.and_eq_true, decide_eq_true_eq] at *
 omega
theorem or_ok {S T : UInt8 → Bool} (hS : okSet S) (hT : okSet T) : okSet fun x => S x || T x := by
 intro b hb
 rcases Bool.or_eq_true_iff.1 hb with h | h
 ·exact hS b h
 ·exact hT b h
theorem memB_ok : ∀ (n : Nat) (l : List UInt8) (S R : UInt8 → Bool), l.length ≤ n → l.all isText = true → okSet S → memB S l = some R → okSet R
 | _, [], S, R, _, _, hS, h => by rw [memB] at h; cases h; exact hS
 | 0, _ :: _, _, _, hn, _, _, _ => by simp at hn
 | n + 1, a :: t, S, R, hn, hl, hS, h => by
  rw [List.all_cons, Bool.and_eq_true] at hl
  simp only [List.length_cons] at hn
  by_cases hs : t.length < 2 ∨ t[0]? ≠ some 45
  ·rw [memB_single S a t hs] at h
   exact memB_ok n t _ R (by omega) hl.2 (or_ok hS (range_ok hl.1 hl.1)) h
  ·match t, hs, hl, hn, h with
   | [], hs, _, _, _ => exact absurd (Or.inl (by simp)) hs
   | [_], hs, _, _, _ => exact absurd (Or.inl (by simp)) hs
   | b :: c :: u, hs, hl, hn, h =>
    have hb : b = 45 := by
     rw [not_or] at hs
     simpa using Decidable.of_not_not hs.2
    subst hb
    rw [memB_range] at h
    split at h
    ·simp at h
    ·simp only [List.all_cons, Bool.and_eq_true] at hl
     exact memB_ok n u _ R (by simp only [List.length_cons] at hn; omega) hl.2.2.2 (or_ok hS (range_ok hl.1 hl.2.2.1)) h
theorem firstEl_ok {c : UInt8} {r : List UInt8} {e : El} {k : Nat} (hc : isText c = true) (hr : r.all isText = true) (h : firstEl c r = some (e, k)) : e.ok ∧ (e.self = true → ∃ b, isText b = true ∧ e.star = false ∧ e.set = fun x => x == b) := by
 unfold firstEl at h
 split at h
 ·simp only [Option.some.injEq, Prod.mk.injEq] at h
  obtain ⟨rfl, _⟩ := h
  exact ⟨⟨fun _ h => h, fun _ _ h => h⟩, fun h => by simp at h⟩
 ·split at h
  ·simp only [Option.some.injEq, Prod.mk.injEq] at h
   obtain ⟨rfl, _⟩ := h
   exact ⟨⟨fun _ h => h, fun h => by simp at h⟩, fun h => by simp at h⟩
  ·split at h
   ·split at h
    ·simp only [Option.map_eq_some_iff, Prod.mk.injEq] at h
     obtain ⟨S, hS, rfl, _⟩ := h
     refine ⟨⟨?_, fun h => by simp at h⟩, fun h => by simp at h⟩
     have hrt : (r.take (r.idxOf 93)).all isText = true := List.all_eq_true.2 fun x hx => List.all_eq_true.1 hr x (List.mem_of_mem_take hx)
     generalize r.take (r.idxOf 93) = m at *
     show okSet S
     unfold setB at hS
     split at hS
     ·simp at hS
     ·rename_i d u
      rw [List.all_cons, Bool.and_eq_true] at hrt
      split at hS
      ·split at hS
       ·simp at hS
       ·simp only [Option.map_eq_some_iff] at hS
        obtain ⟨R, hR, rfl⟩ := hS
        intro b hb
        rw [Bool.and_eq_true] at hb
        exact hb.1
      ·exact memB_ok _ _ _ S (Nat.le_refl _) (by rw [List.all_cons, hrt.1, hrt.2]; rfl) (fun _ h => by simp at h) hS
    ·simp at h
   ·simp only [Option.some.injEq, Prod.mk.injEq] at h
    obtain ⟨rfl, _⟩ := h
    refine ⟨⟨fun b hb => ?_, fun h => by simp at h⟩, fun _ => ⟨c, hc, rfl, rfl⟩⟩
    have : b = c := by simpa using hb
    rw [this]; exact hc
def ElGood (e : El) : Prop := e.ok ∧ (e.self = true → ∃ b, isText b = true ∧ e.star = false ∧ e.set = fun x => x == b)
theorem toks_good : ∀ (n : Nat) (p : List UInt8) (T : List (Option El)), p.length ≤ n → p.all isText = true → toks p = some T → (∀ e, some e ∈ T → ElGood e) ∧ T.length ≤ p.length
 | _, [], T, _, _, h => by
  have : T = [] := by have h' : (some [] : Option (List (Option El))) = some T := h; cases h'; rfl
  subst this
  exact ⟨fun e he => by simp at he, Nat.le_refl _⟩
 | 0, _ :: _, _, hn, _, _ => by simp at hn
 | n + 1, c :: r, T, hn, hl, h => by
  rw [List.all_cons, Bool.and_eq_true] at hl
  simp only [List.length_cons] at hn
  rw [toks_cons] at h
  split at h
  ·simp only [Option.map_eq_some_iff] at h
   obtain ⟨U, hU, rfl⟩ := h
   obtain ⟨i1, i2⟩ := toks_good n r U (by omega) hl.2 hU
   exact ⟨fun e he => i1 e (by simpa using he), by simp; exact i2⟩
  ·split at h
   ·simp at h
   ·rename_i e k hf
    simp only [Option.map_eq_some_iff] at h
    obtain ⟨U, hU, rfl⟩ := h
    obtain ⟨i1, i2⟩ := toks_good n (r.drop k) U (by simp; omega) (List.all_eq_true.2 fun x hx => List.all_eq_true.1 hl.2 x (List.mem_of_mem_drop hx)) hU
    refine ⟨fun f hf' => ?_, by simp at i2 ⊢; omega⟩
    rcases List.mem_cons.1 hf' with h1 | h1
    ·cases h1
     exact firstEl_ok hl.1 hl.2 hf
    ·exact i1 f h1
theorem altsOf_mem {T : List (Option El)} {a : List El} {e : El} (ha : a ∈ altsOf T) (he : e ∈ a) : some e ∈ T := by
 induction T generalizing a with
 | nil => simp [altsOf] at ha; subst ha; simp at he
 | cons x t ih => cases x with
  | none =>
   simp only [altsOf, List.mem_cons] at ha
   rcases ha with rfl | ha
   ·simp at he
   ·exact List.mem_cons_of_mem _ (ih ha he)
  | some f =>
   simp only [altsOf] at ha
   cases hh : altsOf t with
   | nil => exact absurd hh (altsOf_ne t)
   | cons h r =>
    rw [hh] at ha
    simp only [List.mem_cons] at ha
    rcases ha with rfl | ha
    ·rcases List.mem_cons.1 he with rfl | he
     ·exact List.mem_cons_self
     ·exact List.mem_cons_of_mem _ (ih (by rw [hh]; exact List.mem_cons_self) he)
    ·exact List.mem_cons_of_mem _ (ih (by rw [hh]; exact List.mem_cons_of_mem _ ha) he)
theorem altsOf_size (T : List (Option El)) : (altsOf T).length ≤ T.length + 1 ∧ ∀ a ∈ altsOf T, a.length ≤ T.length := by
 induction T with
 | nil => simp [altsOf]
 | cons x t ih => cases x with
  | none =>
   refine ⟨by simp [altsOf]; exact ih.1, fun a ha => ?_⟩
   simp only [altsOf, List.mem_cons] at ha
   rcases ha with rfl | ha
   ·simp
   ·have := ih.2 a ha; simp; omega
  | some f =>
   simp only [altsOf]
   cases hh : altsOf t with
   | nil => exact absurd hh (altsOf_ne t)
   | cons h r =>
    rw [hh] at ih
    refine ⟨by have := ih.1; simp at this ⊢; omega, fun a ha => ?_⟩
    simp only [List.mem_cons] at ha
    rcases ha with rfl | ha
    ·have := ih.2 h List.mem_cons_self; simp; exact this
    ·have := ih.2 a (List.mem_cons_of_mem _ ha); simp; omega
theorem altsP_parts {p : List UInt8} {L : List (List El)} (h : altsP p = some L) : p.length ≤ 256 ∧ p.all isText = true ∧ ∃ T, toks p = some T ∧ L = altsOf T := by
 unfold altsP at h
 split at h
 ·simp at h
 ·split at h
  ·simp at h
  ·rename_i h1 h2
   simp only [Option.map_eq_some_iff] at h
   obtain ⟨T, hT, rfl⟩ := h
   refine ⟨by omega, ?_, T, hT, rfl⟩
   have : allIn TextSet p = true := by simpa using h2
   unfold allIn at this
   rw [← this]
   exact congrArg (fun f => p.all f) (funext fun b => (text_iff b).symm)
theorem altsP_good {p : List UInt8} {L : List (List El)} (h : altsP p = some L) : L ≠ [] ∧ L.length ≤ 257 ∧ ∀ a ∈ L, a.length ≤ 256 ∧ ∀ e ∈ a, ElGood e := by
 obtain ⟨hp, ht, T, hT, rfl⟩ := altsP_parts h
 obtain ⟨g1, g2⟩ := toks_good _ p T (Nat.le_refl _) ht hT
 obtain ⟨s1, s2⟩ := altsOf_size T
 exact ⟨altsOf_ne T, by omega, fun a ha => ⟨by have := s2 a ha; omega, fun e he => g1 e (altsOf_mem ha he)⟩⟩
/-- How many bytes are the same at the beginning. -/
def sameB : List UInt8 → List UInt8 → Nat
 | a :: s, b :: t => if a = b then sameB s t + 1 else 0
 | _, _ => 0
theorem sameB_at {s t : List UInt8} {n : Nat} (h : s.take n = t.take n) (hs : n ≤ s.length) (ht : n ≤ t.length) : sameB s t = n + sameB (s.drop n) (t.drop n) := by
 induction n generalizing s t with
 | zero => simp
 | succ n ih =>
  match s, t, hs, ht, h with
  | a :: s, b :: t, hs, ht, h =>
   simp only [List.take_succ_cons, List.cons.injEq] at h
   obtain ⟨rfl, h⟩ := h
   simp only [List.length_cons] at hs ht
   rw [sameB, if_pos rfl, ih h (by omega) (by omega), List.drop_succ_cons, List.drop_succ_cons]
   omega
set_option maxHeartbeats 400000 in
set_option maxRecDepth 100000 in
theorem sameBytes_any (a b : ByteArray) (w : World) (ha : a.size ≤ 4611686018427387904) (hb : b.size ≤ 4611686018427387904) : Calls Tryd.prog 59 #[.string a, .string b] w (Drw (.int .i64 (sameB a.data.toList b.data.toList : Nat)) w) := by
 have hsa := Lib.size_eq a
 have hsb := Lib.size_eq b
 have hai : (a.size : Int) ≤ 4611686018427387904 := by omega
 have hbi : (b.size : Int) ≤ 4611686018427387904 := by omega
 have Hsa := Lib.hid hsa
 have Hsb := Lib.hid hsb
 clear hsa hsb
 go_enter Tryd.func59, Tryd.ntmps59
 go_wp2
 go_loopw [5] (fun s5 wx => ∃ n : Nat, n ≤ a.size ∧ n ≤ b.size ∧ s5 = .int .i64 n ∧ a.data.toList.take n = b.data.toList.take n ∧ Dr w wx) (fun s5 _ => a.size - (intOf s5).toNat)
 case atStart => exact ⟨0, by omega, by omega, rfl, rfl, Dr.refl w⟩
 case round =>
  obtain ⟨n, hna, hnb, rfl, htake, hdr⟩ := hrel
  have Htake := Lib.hid htake
  have Hdr := Lib.hid hdr
  clear htake hdr
  by_cases hlt : n < min a.size b.size
  ·have hnai : (n : Int) < (a.size : Int) := by omega
   have hnbi : (n : Int) < (b.size : Int) := by omega
   have hmin : (n : Int) < min (a.size : Int) (b.size : Int) := by omega
   obtain ⟨x, hx⟩ : ∃ x : UInt8, a[n]'(by omega) = x := ⟨_, rfl⟩
   obtain ⟨y, hy⟩ : ∃ y : UInt8, b[n]'(by omega) = y := ⟨_, rfl⟩
   have hxl : a.data.toList[n]? = some x := by rw [← hx]; exact Lib.data_getElem? a n (by omega)
   have hyl : b.data.toList[n]? = some y := by rw [← hy]; exact Lib.data_getElem? b n (by omega)
   by_cases hxy : x = y
   ·have Hn := Lib.hid (show a.data.toList.take (n + 1) = b.data.toList.take (n + 1) by rw [List.take_add_one, List.take_add_one, hxl, hyl, Htake.out, hxy])
    have hq : ((x.toNat : Int) == (y.toNat : Int)) = true := by rw [hxy]; simp
    clear hxl hyl
    go_wp2
    go_quiet (fail)
    go_wp2
    exact ⟨⟨n + 1, by omega, by omega, rfl, Hn.out, Hdr.out.drewN _⟩, by simp [intOf]; omega⟩
   ·have hv : sameB a.data.toList b.data.toList = n := by
     rw [sameB_at Htake.out (by rw [← Hsa.out]; omega) (by rw [← Hsb.out]; omega), drop_at8 hxl, drop_at8 hyl, sameB, if_neg hxy]
     rfl
    have hq : ((x.toNat : Int) == (y.toNat : Int)) = false := by rw [beq_eq_false_iff_ne]; intro e; exact hxy (UInt8.toNat_inj.1 (by omega))
    have Hv := Lib.hid hv
    clear hxl hyl hv
    go_wp2
    go_quiet (fail)
    go_wp2
    go_ret
    exact ⟨by rw [Hv.out]; rfl, Hdr.out.drewN _⟩
  ·have hv : sameB a.data.toList b.data.toList = n := by
    rw [sameB_at Htake.out (by rw [← Hsa.out]; omega) (by rw [← Hsb.out]; omega)]
    rcases (by omega : n = a.size ∨ n = b.size) with h | h
    ·rw [h, Hsa.out, List.drop_length]
     rfl
    ·rw [h, Hsb.out, List.drop_length]
     cases a.data.toList.drop b.data.toList.length <;> rfl
   have Hv := Lib.hid hv
   have hmin : ¬ (n : Int) < min (a.size : Int) (b.size : Int) := by omega
   have hmind : decide ((n : Int) < min (a.size : Int) (b.size : Int)) = false := decide_eq_false hmin
   clear hv
   go_wp2
   go_quiet (fail)
   go_wp2
   go_ret
   exact ⟨by rw [Hv.out]; rfl, Hdr.out.drewN _⟩
end Go.Proofs.YtdlchlbngojljaaDoor.Gl
