/- helper.Items: the walk. -/
import Derived.Test.YteiphphihclnfaaDoorHI
namespace Go.Proofs.YteiphphihclnfaaDoor
open Go.RowKit Go.Shelf
open Go.Proofs.YteiphphihclnfaaDoor.Nm
attribute [local go_sem] Oper.semAt_some
/-- The length of fast searches stands in the first block. -/
def Max (w : World) : Prop := ∃ m : Int, w.cell? ⟨0, 0, none⟩ = some (.int .i64 m)
theorem Max.lt {w : World} (h : Max w) : 0 < w.heap.size := by
  obtain ⟨m, h⟩ := h
  exact block_lt_of_cell h
theorem Max.keep {w w' : World} (h : Max w) (hk : w'.heap[0]? = w.heap[0]?) : Max w' := by
  obtain ⟨m, h⟩ := h
  exact ⟨m, by simp only [World.cell?, hk] at h ⊢; exact h⟩
theorem Max.kp {w w' : World} {S : List Nat} (h : Max w) (hk : Kp S w w') (hs : 0 ∉ S) : Max w' := h.keep (hk.block 0 h.lt hs)
theorem cut_any {p : ByteArray} (hp : p.size ≤ 1000000) {w : World} (hm : Max w) : Calls Tryd.prog 30 #[.string p, .string ⟨#[61]⟩] w fun e w' => e = .returned (.tuple #[.string (bs (Lib.cut p.data.toList [61]).1), .string (bs (Lib.cut p.data.toList [61]).2.1), .bool (Lib.cut p.data.toList [61]).2.2]) ∧ Kp [] w w' := by
  obtain ⟨m, hm⟩ := hm
  exact (Tryd.strings_Cut p ⟨#[61]⟩ m w (by omega) hm).mono fun e w' ⟨h1, n, h2⟩ => ⟨h1, by rw [h2]; exact (Kp.refl [] w).drew n⟩
theorem key_kp {s : List UInt8} (hs : s.length ≤ 1000000) (w : World) : Calls Tryd.prog 22 #[.string (bs s)] w fun e w' => e = .returned (.bool (keyB s)) ∧ Kp [] w w' :=
  (key_any (bs s) w (by rw [bs_size]; omega)).mono fun _ _ ⟨h1, h2⟩ => ⟨h1, Kp.of_below h2⟩
theorem cut_len (p : List UInt8) : (Lib.cut p [61]).1.length ≤ p.length ∧ (Lib.cut p [61]).2.1.length ≤ p.length := by
  unfold Lib.cut
  split
  · simp only [List.length_take, List.length_drop]
    omega
  · simp
theorem itemOf_no {p : List UInt8} (h : keyB (Lib.cut p [61]).1 = false) : itemOf p = none := by
  unfold itemOf
  rw [h]
  rfl
theorem itemOf_empty {p : List UInt8} (h : (Lib.cut p [61]).2.1 = []) : itemOf p = none := by
  unfold itemOf
  rw [h]
  simp
theorem itemOf_yes {p : List UInt8} (h : keyB (Lib.cut p [61]).1 = true) (h2 : (Lib.cut p [61]).2.1 ≠ []) : itemOf p = some ((Lib.cut p [61]).1, (Lib.cut p [61]).2.1) := by
  unfold itemOf
  rw [h, show (Lib.cut p [61]).2.1.isEmpty = false by simpa using h2]
  rfl
theorem own_put {W : World} {B D : Nat} {v : Value} {l : List Atb} {o o' : Obj} (h : atT.Own W B v l) (hD : W.heap[D]? = some o) (ho : o.isCells = false) : atT.Own (W.putObj D o') B v l :=
  h.keep fun b _ hv => World.putObj_heap_other (by
    rintro rfl
    rcases h.2 with ⟨rfl, _⟩ | ⟨g, cap, cur, rfl, _, hgb, _⟩
    · cases hv
    · have : g = b := by simpa [Value.ownBlock] using hv
      subst this
      rw [hgb] at hD
      cases hD
      cases ho)
set_option maxHeartbeats 4000000 in
set_option maxRecDepth 100000 in
theorem items_any {s : List UInt8} (hs : s.length ≤ 100000) {w : World} (hmx : Max w) :
    Calls Tryd.prog 19 #[.string (bs s)] w fun e w' => ∃ v, e = .returned v ∧ atT.Own w' w.heap.size v (itemsL s) ∧ Kp [] w w' := by
  refine (callsIn_wide (n := 5)).1 ?_
  refine callsIn_of_wp_marks Tryd.func19 rfl trivial (wpIn_wide.2 ?_) rfl
  simp only [Tryd.ntmps19, List.size_toArray, List.length_cons, List.length_nil, Nat.reduceAdd, Nat.reduceSub, Array.replicate_succ, Array.replicate_zero, List.push_toArray, List.append_toArray, List.nil_append, List.cons_append]
  go_wp2_with (go_at_call 29; refine (splitSeq_any _ _ _).mono ?_; rintro e w' ⟨rfl, rfl⟩)
  obtain ⟨W2, hW2⟩ : ∃ W2, w.alloc (.cells #[.slice none 0 0] 43) = W2 := ⟨_, rfl⟩
  have hz2 : w.heap.size + 1 = W2.heap.size := by rw [← hW2]; simp
  have hk2 : Kp [] w W2 := by rw [← hW2]; exact (Kp.refl [] w).alloc _
  have hbx2 : Boxed W2 w.heap.size 43 (.slice none 0 0) := by rw [← hW2]; exact Boxed.new w _ _
  have hsz : (splitWorld W2 (bs s) ⟨#[59]⟩).heap.size = W2.heap.size + 3 := splitWorld_size W2 (bs s) ⟨#[59]⟩
  have hbs : Below W2.heap.size W2 (splitWorld W2 (bs s) ⟨#[59]⟩) := splitWorld_below W2 (bs s) ⟨#[59]⟩
  have hkw : Kp [] w (splitWorld W2 (bs s) ⟨#[59]⟩) := hk2.trans (Kp.of_below hbs)
  have hH0 : HoldI W2.heap.size w.heap.size (splitWorld W2 (bs s) ⟨#[59]⟩) [] (splitWorld W2 (bs s) ⟨#[59]⟩) := ⟨rfl, rfl, rfl, Nat.le_refl _, fun _ _ _ _ => rfl, _, (hbs.block _ (by omega)).trans hbx2, RT.Own.nil _ _ _⟩
  have hm0 := hmx.lt
  have HMX := Lib.hid (hmx.kp hkw (by simp))
  have HKW := Lib.hid hkw
  have hcount := pieces_count 59 s
  rw [hz2, hW2]
  clear hW2 hk2 hbx2 hbs hmx hkw
  refine wp_rangeSplit (n := 5) (by omega) W2 (bs s) 59 (by rw [bs_size]; omega) rfl rfl
    (fun pre W => ∃ acc, acc = itemsOn pre ∧ HoldI W2.heap.size w.heap.size (splitWorld W2 (bs s) ⟨#[59]⟩) acc W)
    (fun _ _ _ => False)
    (HoldI.own _ (by omega) (by omega) _) (fun cd => by rintro _ _ _ _ h; exact h.elim)
    (fun pre A v h => by obtain ⟨acc, hp, h⟩ := h; exact ⟨acc, hp, h.set0 (by omega) (by omega) v⟩) (fun _ _ _ _ h => h.elim) ⟨[], rfl, hH0⟩
    (fun x => { tmps := #[.string (bs s), undef, .slice none 0 0, .pointer (some ⟨w.heap.size, 0, none⟩), .string x, undef, undef, undef, .string (bs s), splitFn W2.heap.size, .string x, undef, undef, undef, undef, undef, undef, undef, undef, undef, undef, undef, undef, undef, undef, undef, undef, undef, undef, undef], defers := [] }) ?assign ?body ?done ?stop
  case assign =>
    intro l x W K hK
    gi_wp2
    exact hK
  case stop =>
    rintro D cd pre W hD hp h
    exact h.elim
  case body =>
    rintro l pre x W ⟨acc, hacc, hH⟩ hx
    have hxs : x.size ≤ 1000000 := by have := piecesB_size' hx; rw [bs_size] at this; omega
    have hpl : acc.length ≤ 1000000 := by
      rw [hacc]
      have h1 := itemsOn_len pre
      obtain ⟨r, hr⟩ := hx
      have h2 := congrArg List.length hr
      unfold piecesB at h2
      simp only [List.length_map, List.length_append, bs_data] at h2
      omega
    have hmW : Max W := HMX.out.keep (hH.block 0 (by omega) (by omega) (by omega))
    have hn := itemsOn_snoc pre x
    rw [← hacc] at hn
    have hc1 := cut_len x.data.toList
    rw [← Lib.size_eq] at hc1
    have hcut := cut_any hxs hmW
    have hno := fun h => itemOf_no (p := x.data.toList) h
    have hem := fun h => itemOf_empty (p := x.data.toList) h
    have hye := fun h h2 => itemOf_yes (p := x.data.toList) h h2
    generalize (Lib.cut x.data.toList [61]).1 = K at hcut hno hem hye hc1
    generalize (Lib.cut x.data.toList [61]).2.1 = V at hcut hno hem hye hc1
    generalize (Lib.cut x.data.toList [61]).2.2 = ok at hcut
    have hkl : K.length ≤ 1000000 := by omega
    have Hcut := Lib.hid hcut
    have HH := Lib.hid hH
    have Hn := Lib.hid hn
    have Hno := Lib.hid hno
    have Hem := Lib.hid hem
    have Hye := Lib.hid hye
    have hzW := hH.size
    clear hcut hH hn hno hem hye hmW hc1 hx hacc
    gi_wp2_with fail
    refine ⟨trivial, (CallsIn.inRound l (callsIn_wide.2 Hcut.out)).mono ?_⟩
    rintro e W3 ⟨rfl, hk3⟩
    have HK3 := Lib.hid hk3
    clear hk3
    have HKey := Lib.hid (key_kp hkl W3)
    obtain ⟨kb, hkb⟩ : ∃ kb, keyB K = kb := ⟨_, rfl⟩
    rw [hkb] at HKey
    gi_wp2_with fail
    refine ⟨trivial, (CallsIn.inRound l (callsIn_wide.2 HKey.out)).mono ?_⟩
    rintro e W4 ⟨rfl, hk4⟩
    have HK4 := Lib.hid (HK3.out.trans hk4)
    clear hk4
    cases kb with
    | false =>
      have Hr := Lib.hid (show itemOf x.data.toList = none from Hno.out hkb)
      clear hkb
      gi_wp2
      exact ⟨(KeepsOthers.of_kp0 HK4.out).from _ |> fun h => ⟨h.size, h.same⟩, fun j h1 h2 => HK4.out.block j (by omega) (by simp), acc, by rw [Hn.out, Hr.out]; simp, HH.out.kp0 (by omega) HK4.out⟩
    | true =>
      by_cases hV : V = []
      · have Hr := Lib.hid (show itemOf x.data.toList = none from Hem.out hV)
        have hVe : (bs V).toList.isEmpty = true := empty_form hV
        clear hkb hV
        gi_wp2
        exact ⟨(KeepsOthers.of_kp0 HK4.out).from _ |> fun h => ⟨h.size, h.same⟩, fun j h1 h2 => HK4.out.block j (by omega) (by simp), acc, by rw [Hn.out, Hr.out]; simp, HH.out.kp0 (by omega) HK4.out⟩
      · have Hr := Lib.hid (show itemOf x.data.toList = some (K, V) from Hye.out hkb hV)
        have hVe : (bs V).toList.isEmpty = false := nonempty_form hV
        have hH4 := HH.out.kp0 (by omega) HK4.out
        obtain ⟨v, hvb, hrow⟩ := hH4.row
        have hcb := hvb.cell
        have hfb := hvb.frozen
        obtain ⟨W5, hW5⟩ : ∃ W5, W4.alloc (.cells #[.string (bs K), .string (bs V)] 50) = W5 := ⟨_, rfl⟩
        obtain ⟨E, hE⟩ : ∃ E, W4.heap.size = E := ⟨_, rfl⟩
        have hk5 : Kp [] W4 W5 := by rw [← hW5]; exact (Kp.refl [] W4).alloc _
        have hE5 : W5.rangeAt E 0 (atT.cf (K, V)) := fun m u hu => by
          rw [← hW5, ← hE, cell_of_row _ _ _ _ _ _ (heap_alloc_last W4 _), Nat.zero_add]
          simpa [atT] using hu
        have hH5 := hH4.kp0 (by omega) hk5
        have hrow5 := hrow.kp0 hk5
        have hvb5 : Boxed W5 w.heap.size 43 v := (hk5.block _ (by have := hvb.lt; omega) (by simp)).trans hvb
        have hb5 : (splitWorld W2 (bs s) ⟨#[59]⟩).heap.size ≤ W5.heap.size := hH5.size
        obtain ⟨ad, cp, rfl⟩ := hrow5.form
        have HROW := Lib.hid hrow5
        have HE5 := Lib.hid hE5
        have HVB := Lib.hid hvb5
        have HH5 := Lib.hid hH5
        have HK5 := Lib.hid (HK4.out.trans hk5)
        clear hkb hV hrow hvb hH4 hE5 hrow5 hvb5 hH5 hk5
        gi_wp2_with (gi_at_builtin; refine wpListIn_append_r (r := atT) rfl _ _ rfl (splitWorld W2 (bs s) ⟨#[59]⟩).heap.size _ acc rfl HROW.out E 1 (K, V) rfl HE5.out hpl hb5 ?_; intro v1 w1 hown1 hg1; obtain ⟨ad1, cp1, rfl⟩ := hown1.form; have hvb1 : Boxed w1 w.heap.size 43 _ := (hg1.block _ (by have := HVB.out.lt; omega) (fun e => by have := (HROW.out.ge _ e.symm).1; omega)).trans HVB.out; have hcb1 := hvb1.cell; have hfb1 := hvb1.frozen; have HOWN1 := Lib.hid hown1; have HG1 := Lib.hid hg1; clear hvb1 hown1 hg1 hcb hfb)
        have hg1 : W5.grownBy w1 (Value.slice ad acc.length cp).ownBlock := HG1.out
        have hpush := HH5.out.push (by omega) HVB.out HROW.out hg1 HOWN1.out
        have hkz := HK5.out.size
        rw [show (acc ++ [(K, V)]).length = acc.length + 1 by simp] at hpush
        exact ⟨((KeepsOthers.of_kp0 HK5.out).trans ((others_own HROW.out hg1).trans (KeepsOthers.setCell _ _ _))).from _ |> fun h => ⟨h.size, h.same⟩, fun j h1 h2 => (Below.heap_setCell _ _ _ _ (by show j ≠ w.heap.size; omega)).trans ((hg1.block j (by omega) (fun e => by have := (HROW.out.ge _ e.symm).1; omega)).trans (HK5.out.block j (by omega) (by simp))), _, by rw [Hn.out, Hr.out]; rfl, hpush⟩
  case done =>
    rintro D W hD ⟨acc, hacc, hH⟩ hK
    rw [itemsOn_pieces] at hacc
    subst hacc
    obtain ⟨v, hvb, hrow⟩ := hH.row
    have hcb := hvb.cell
    obtain ⟨acc, hacc⟩ : ∃ acc, itemsL s = acc := ⟨_, rfl⟩
    rw [hacc] at hrow hH
    obtain ⟨ad, cp, rfl⟩ := hrow.form
    have HK := Lib.hid hK
    have HROW := Lib.hid hrow
    have HH := Lib.hid hH
    have Hacc := Lib.hid hacc
    clear hK hrow hH hvb hacc hH0
    go_wp2
    refine ⟨by simp, .inl ⟨_, _, rfl, run_takeDeferred HK.out, ?_⟩⟩
    refine ⟨_, results_tmp rfl _ _ _, _, rfl, ?_, ?_⟩
    · rw [Hacc.out]
      exact RT.Own.down (own_put HROW.out HK.out rfl) (by omega)
    · have hs1 := HH.out.size
      have hs2 := HKW.out.size
      exact ⟨HH.out.os.trans HKW.out.os, HH.out.tape.trans HKW.out.tape, HH.out.output.trans HKW.out.output, by simp; omega, fun j hj _ => (World.putObj_heap_other (by omega)).trans ((HH.out.block j (by omega) (by omega) (by omega)).trans (HKW.out.block j hj (by simp)))⟩
end Go.Proofs.YteiphphihclnfaaDoor
