/- Maps from texts to places; Interface and Node. lookup by a text; Interface, Node. Node of the reference. What is found, as the law compares it. -/
import Derived.Test.YtldcediiobfhiaaGreatDoorQDeDL
import Derived.Test.YtldcediiobfhiaaGreatDoorQRf
import Derived.Test.YtldcediiobfhiaaGreatDoorQTu
import Derived.Test.YtldcediiobfhiaaGreatDoorQAB
import Derived.Test.YtldcediiobfhiaaGreatDoorQGG
import Derived.Test.YtldcediiobfhiaaGreatDoorQMg
import Derived.StringKeys
import Derived.Test.YtldcediiobfhiaaGreatDoorQX3
import Derived.Test.YtldcediiobfhiaaGreatDoorQX4
import Derived.Test.YtldcediiobfhiaaGreatDoorQV8
import Derived.Test.YtldcediiobfhiaaGreatDoorQX1
namespace Go.Proofs.YtldcediiobfhiaaGreatDoor.De
open Go.RowKit Go.Maps
theorem lawS : Keyed Tryz.prog 9 := Maps.string_keyed Tryz.underlying9
theorem keyS {s : ByteArray} (h : s.size ≤ 4611686018427387904) : keyOf Tryz.prog 9 (.string s) = some (.string s.data.toList) := WideMaps.keyOf_string_mk (P := Tryz.prog) (k := 9) Tryz.underlying9 (s := s) (by unfold maxLen; omega)
/-- Block M is a map from texts to places: those that f gives. -/
structure SMap (w : World) (M N : Nat) (f : List UInt8 → Option Nat) (D : DataW Unit) : Prop where
 own : w.ownsMap Tryz.prog 9 (plainElem Tryz.prog 3) M N D
 has : ∀ s, Maps.has D (.string s) = (f s).isSome
 val : ∀ s p, f s = some p → ∀ zd, D.atKey (.string s) zd = .lit (.int .i64 (p : Int))
theorem SMap.made (w : World) : SMap (w.alloc (.map #[] 0)) w.heap.size 0 (fun _ => none) (.map []) :=
 ⟨World.ownsMap_made _ _ _ _, fun x => by simp [Maps.has_eq], fun x p h => by cases h⟩
theorem SMap.kept {w w' : World} {M N : Nat} {f : List UInt8 → Option Nat} {D : DataW Unit} (h : SMap w M N f D) (hb : w'.heap[M]? = w.heap[M]?) : SMap w' M N f D := by
 obtain ⟨⟨es, clock, h1, h2⟩, h3, h4⟩ := h
 exact ⟨⟨es, clock, hb.trans h1, h2⟩, h3, h4⟩
theorem SMap.lt {w : World} {M N : Nat} {f : List UInt8 → Option Nat} {D : DataW Unit} (h : SMap w M N f D) : M < w.heap.size := h.own.lt
theorem SMap.below {w w' : World} {M N : Nat} {f : List UInt8 → Option Nat} {D : DataW Unit} (h : SMap w M N f D) (hb : Below w.heap.size w w') : SMap w' M N f D := h.kept (hb.block M h.lt)
theorem SMap.more {w : World} {M N : Nat} {f : List UInt8 → Option Nat} {D : DataW Unit} (h : SMap w M N f D) : SMap w M (N + 1) f D := ⟨h.own.mono (Nat.le_succ N), h.has, h.val⟩
def putS (f : List UInt8 → Option Nat) (x : List UInt8) (p : Nat) : List UInt8 → Option Nat := fun y => if y = x then some p else f y
theorem SMap.put {w w' : World} {M N p : Nat} {x : List UInt8} {f : List UInt8 → Option Nat} {D : DataW Unit} (h : SMap w M N f D) (hkey2 : keyOf Tryz.prog 9 (.string ⟨x.toArray⟩) = some (.string x)) (hown : w'.ownsMap Tryz.prog 9 (plainElem Tryz.prog 3) M (N + 1) (D.put (.string x) (.lit (.int .i64 (p : Int))))) : SMap w' M (N + 1) (putS f x p) (D.put (.string x) (.lit (.int .i64 (p : Int)))) := by
 have hkey := lawS.key hkey2
 refine ⟨hown, fun y => ?_, fun y q hq zd => ?_⟩
 ·unfold putS
  by_cases e : y = x
  ·subst e
   rw [Maps.has_put_same h.own.isMap hkey, if_pos rfl]
   rfl
  ·rw [Maps.has_put_other (fun e' => e (by cases e'; rfl)), h.has y, if_neg e]
 ·unfold putS at hq
  by_cases e : y = x
  ·subst e
   rw [if_pos rfl] at hq
   obtain rfl := Option.some.inj hq
   exact Maps.atKey_put_same h.own.isMap hkey _ _
  ·rw [if_neg e] at hq
   rw [Maps.atKey_put_other (fun e' => e (by cases e'; rfl))]
   exact h.val y q hq zd
section
variable (kf : ADev → ByteArray) (kb : ADev → Bool)
/-- The device has that key. -/
def hitK (s : List UInt8) (a : ADev) : Bool := kb a && decide ((kf a).data.toList = s)
/-- The last place of a key. -/
def lastK : List ADev → List UInt8 → Option Nat
 | [], _ => none
 | a :: l, n => match lastK l n with
  | some p => some (p + 1)
  | none => if hitK kf kb n a then some 0 else none
theorem lastK_snoc : ∀ (l : List ADev) (a : ADev), lastK kf kb (l ++ [a]) = if kb a then putS (lastK kf kb l) (kf a).data.toList l.length else lastK kf kb l
 | [], a => by
  funext n
  cases hk : kb a with
  | false => simp [lastK, hitK, hk]
  | true =>
   by_cases h : n = (kf a).data.toList
   ·simp [lastK, hitK, hk, putS, h]
   ·have h' : ¬ (kf a).data.toList = n := fun e => h e.symm
    simp [lastK, hitK, hk, putS, h, h']
 | b :: l, a => by
  funext n
  have ih := congrFun (lastK_snoc l a) n
  rw [List.cons_append, lastK, ih]
  cases hk : kb a with
  | false => simp [lastK]
  | true =>
   by_cases h : n = (kf a).data.toList
   ·simp [putS, h]
   ·simp [putS, h, lastK]
theorem lastK_some : ∀ {l : List ADev} {n : List UInt8} {p : Nat}, lastK kf kb l n = some p → ∃ a, l[p]? = some a ∧ hitK kf kb n a = true
 | [], _, _, h => by cases h
 | a :: l, n, p, h => by
  unfold lastK at h
  cases hl : lastK kf kb l n with
  | some q =>
   rw [hl] at h
   obtain rfl := Option.some.inj h
   obtain ⟨b, hb, he⟩ := lastK_some hl
   exact ⟨b, by simpa using hb, he⟩
  | none =>
   rw [hl] at h
   simp only at h
   split at h
   ·rename_i he
    obtain rfl := Option.some.inj h
    exact ⟨a, rfl, he⟩
   ·cases h
end
set_option maxHeartbeats 1000000 in
set_option maxRecDepth 100000 in
theorem placesS67_any (kf : ADev → ByteArray) (kb : ADev → Bool) (sv : Value) (l : List DV) (w : World) (hl : l.length ≤ 1000000) (h : DHas w sv l) (hkf : ∀ x ∈ l, (kf x.1).size ≤ 4611686018427387904) (hcf : ∀ x ∈ l, ∀ W, Below w.heap.size w W → Calls Tryz.prog 67 #[.agg (dvC x.1 x.2).toArray] W (Bel (.tuple #[.string (kf x.1), .bool (kb x.1)]) W)) :
  Calls Tryz.prog 104 #[.agg #[sv], .func (.func 67) #[] #[]] w fun e w' => ∃ M D, e = .returned (.map (some M)) ∧ w.heap.size ≤ M ∧ SMap w' M l.length (lastK kf kb (l.map (·.1))) D ∧ Below w.heap.size w w' := by
 obtain ⟨a, c, rfl, hrow⟩ := h.form
 obtain ⟨N, hN⟩ : ∃ N, l.length = N := ⟨_, rfl⟩
 rw [hN] at hl ⊢
 have HN := Lib.hid hN
 have HRow := Lib.hid hrow
 have HKf := Lib.hid hkf
 have HCf := Lib.hid hcf
 have hmm := fun (n : Int) (w : World) => run_makeMap_hint (P := Tryz.prog) Tryz.underlying109 .i64 n w
 clear hN hrow hkf hcf h
 obtain ⟨Bz, hE⟩ : ∃ Bz, w.heap.size = Bz := ⟨_, rfl⟩
 have h0 := heap_alloc_last w (.cells #[.slice a N c] 29)
 rw [hE] at h0
 have c0 := cell_of_row _ Bz 0 _ _ _ h0
 simp only [List.getElem?_toArray, List.getElem?_cons_zero] at c0
 have hE1 : (w.alloc (.cells #[.slice a N c] 29)).heap.size = Bz + 1 := by rw [World.size_alloc, hE]
 have him := SMap.made (w.alloc (.cells #[.slice a N c] 29))
 rw [hE1] at him
 have hc0 : ((w.alloc (.cells #[.slice a N c] 29)).alloc (.map #[] 0)).cell? ⟨Bz, 0, none⟩ = some (.slice a N c) := by
  rw [World.cell?_alloc_lt _ _ _ (by rw [hE1]; exact Nat.lt_succ_self Bz)]
  exact c0
 have Him := Lib.hid him
 have Hb0 := Lib.hid (show Below w.heap.size w ((w.alloc (.cells #[.slice a N c] 29)).alloc (.map #[] 0)) from ((Below.refl _ w).alloc (Nat.le_refl _) _).alloc (by rw [World.size_alloc]; omega) _)
 clear him h0
 go_enter Tryz.func104, Tryz.ntmps104
 go_wp2
 go_loopw [17] (fun s17 wx => ∃ (i : Nat) (D : DataW Unit), i ≤ N ∧ s17 = .int .i64 (i : Int) ∧ SMap wx (Bz + 1) i (lastK kf kb ((l.take i).map (·.1))) D ∧ Below w.heap.size w wx) (fun s17 _ => N - (intOf s17).toNat)
 case atStart => exact ⟨0, _, by omega, rfl, Him.out, Hb0.out⟩
 case round =>
  clear Him Hb0 c0 hc0 hE1
  obtain ⟨i, D, hi, rfl, him, hbx⟩ := hrel
  have HM := Lib.hid him
  have Hbx := Lib.hid hbx
  clear him hbx
  by_cases hlt : i < N
  ·have hiz : (i : Int) < (N : Int) := by omega
   obtain ⟨x, hx⟩ : ∃ x, l[i]? = some x := ⟨l[i]'(by rw [HN.out]; exact hlt), List.getElem?_eq_getElem _⟩
   obtain ⟨g, o, rfl, hcap, hg, hr⟩ := HRow.out (fun e => by rw [e] at hx; simp at hx)
   have Hran := Lib.hid ((hr.below hg Hbx.out).at_ i x hx)
   have hxm := List.mem_of_getElem? hx
   have h1x := (hr.ats x hxm).one
   have Hst := Lib.hid (show (dvC x.1 x.2).toArray.all (·.oneCell') = true from by
    rw [Array.all_eq_true_iff_forall_mem]
    intro v hv
    exact dvC_one h1x v (by simpa using hv))
   have htk : (l.take (i + 1)).map (·.1) = (l.take i).map (·.1) ++ [x.1] := by rw [List.take_add_one, hx, List.map_append]; rfl
   have htl : ((l.take i).map (·.1)).length = i := by rw [List.length_map, List.length_take, HN.out]; omega
   have hsn := lastK_snoc kf kb ((l.take i).map (·.1)) x.1
   rw [← htk, htl] at hsn
   have HB := Lib.hid (heap_alloc_last wr (.cells (dvC x.1 x.2).toArray 34))
   have HbA := Lib.hid (Hbx.out.alloc Hbx.out.size (.cells (dvC x.1 x.2).toArray 34))
   have HbA2 := Lib.hid ((Below.refl wr.heap.size wr).alloc (Nat.le_refl _) (.cells (dvC x.1 x.2).toArray 34))
   have hcall := HCf.out x hxm _ HbA.out
   have hks := HKf.out x hxm
   obtain ⟨kv, hkv⟩ : ∃ kv, kf x.1 = kv := ⟨_, rfl⟩
   obtain ⟨bv, hbv⟩ : ∃ bv, kb x.1 = bv := ⟨_, rfl⟩
   rw [hkv, hbv] at hsn hcall
   rw [hkv] at hks
   have HC := Lib.hid hcall
   have HKs := Lib.hid (keyS hks)
   have HKt := Lib.hid (show keyOf Tryz.prog 9 (.string ⟨kv.data.toList.toArray⟩) = some (.string kv.data.toList) by rw [Array.toArray_toList]; exact keyS hks)
   have HSn := Lib.hid hsn
   clear hr hg hx hxm h1x hcap htk htl hsn hcall hks hkv hbv
   cases bv with
   | true =>
    go_wp2_with (first
     | (refine wpList_load_mid rfl 34 _ rfl g (o + i * 10) rfl (dvC x.1 x.2) _ Hran.out Tryz.underlying34 rfl info34b ?_)
     | (refine wpList_load_row rfl 34 _ rfl wr.heap.size rfl 34 (dvC x.1 x.2).toArray (0, 0) _ HB.out Tryz.underlying34 rfl info34b ?_)
     | (refine wpList_store_new wr 34 _ (dvC x.1 x.2).toArray rfl _ _ rfl rfl rfl info34b rfl Hst.out ?_))
    refine Calls.mono (by with_reducible exact HC.out) ?_
    rintro e W5 ⟨rfl, hb5⟩
    have hb51 : Below wr.heap.size wr W5 := HbA2.out.trans (hb5.mono HbA2.out.size)
    have HM5 := Lib.hid (HM.out.below hb51)
    have Hb5 := Lib.hid (Hbx.out.trans (hb51.mono Hbx.out.size))
    clear hb5 hb51 HB
    go_wp2_with (at_mapUpdate; refine wpList_mapUpdate_own _ rfl _ _ _ 109 rfl 9 3 lawS Tryz.underlying109 _ (Bz + 1) i D rfl HM5.out.own (by unfold maxLen; omega) _ _ _ rfl rfl HKs.out (.lit (.int .i64 (i : Int))) [] (plainElem_int Tryz.underlying3 (wfI (by omega))) ?_; intro w3 hown3 hgr3; have Hown3 := Lib.hid hown3; have Hgr3 := Lib.hid hgr3; clear hown3 hgr3)
    have him3 : SMap w3 (Bz + 1) (i + 1) (lastK kf kb ((l.take (i + 1)).map (·.1))) (D.put (.string kv.data.toList) (.lit (.int .i64 (i : Int)))) := by
     have hsn2 := HSn.out
     try simp only [if_true] at hsn2
     rw [hsn2]
     exact HM5.out.put HKt.out Hown3.out
    have Hb3 := Lib.hid (Hb5.out.grown Hgr3.out Hb5.out.size (fun k hk => by cases hk; omega))
    have Him3 := Lib.hid him3
    clear him3
    exact ⟨⟨i + 1, _, by omega, rfl, Him3.out, Hb3.out⟩, by simp [intOf]; omega⟩
   | false =>
    go_wp2_with (first
     | (refine wpList_load_mid rfl 34 _ rfl g (o + i * 10) rfl (dvC x.1 x.2) _ Hran.out Tryz.underlying34 rfl info34b ?_)
     | (refine wpList_load_row rfl 34 _ rfl wr.heap.size rfl 34 (dvC x.1 x.2).toArray (0, 0) _ HB.out Tryz.underlying34 rfl info34b ?_)
     | (refine wpList_store_new wr 34 _ (dvC x.1 x.2).toArray rfl _ _ rfl rfl rfl info34b rfl Hst.out ?_))
    refine Calls.mono (by with_reducible exact HC.out) ?_
    rintro e W5 ⟨rfl, hb5⟩
    have hb51 : Below wr.heap.size wr W5 := HbA2.out.trans (hb5.mono HbA2.out.size)
    have HM5 := Lib.hid (HM.out.below hb51)
    have Hb5 := Lib.hid (Hbx.out.trans (hb51.mono Hbx.out.size))
    clear hb5 hb51 HB
    go_wp2
    have Him3 : SMap W5 (Bz + 1) (i + 1) (lastK kf kb ((l.take (i + 1)).map (·.1))) D := by
     rw [HSn.out, if_neg (by simp)]
     exact HM5.out.more
    exact ⟨⟨i + 1, _, by omega, rfl, Him3, Hb5.out⟩, by simp [intOf]; omega⟩
  ·obtain rfl : i = N := by omega
   have hfin := HM.out
   rw [← HN.out, List.take_length] at hfin
   have Hfin := Lib.hid hfin
   clear hfin
   go_wp2
   go_ret
   exact ⟨Bz + 1, D, rfl, by omega, by rw [← HN.out]; exact Hfin.out, Hbx.out⟩
end Go.Proofs.YtldcediiobfhiaaGreatDoor.De
namespace Go.Proofs.YtldcediiobfhiaaGreatDoor.De
open Go.RowKit Go.Maps
set_option maxHeartbeats 1000000 in
set_option maxRecDepth 100000 in
theorem lookupS67_any (kf : ADev → ByteArray) (kb : ADev → Bool) (sv : Value) (l : List DV) (n : ByteArray) (w : World) (hl : l.length ≤ 1000000) (hal : ∀ x ∈ l, x.1.ats.length ≤ 1000000) (h : DHas w sv l) (hkf : ∀ x ∈ l, (kf x.1).size ≤ 4611686018427387904) (hcf : ∀ x ∈ l, ∀ W, Below w.heap.size w W → Calls Tryz.prog 67 #[.agg (dvC x.1 x.2).toArray] W (Bel (.tuple #[.string (kf x.1), .bool (kb x.1)]) W)) (hn : n.size ≤ 4611686018427387904) :
  Calls Tryz.prog 66 #[.agg #[sv], .string n, .func (.func 67) #[] #[]] w (FoundPost ((lastK kf kb (l.map (·.1)) n.data.toList).bind fun p => l[p]?) w) := by
 obtain ⟨a, c, rfl, hrow⟩ := h.form
 have HD := Lib.hid h
 have HRow := Lib.hid hrow
 have HAl := Lib.hid hal
 have Hn := Lib.hid hn
 have HP := Lib.hid (fun W (hW : Below w.heap.size w W) => placesS67_any kf kb (.slice a l.length c) l W hl (h.below hW) hkf (fun x hx W2 hb => hcf x hx W2 (hW.trans (hb.mono hW.size))))
 obtain ⟨R, hR⟩ : ∃ R, ((lastK kf kb (l.map (·.1)) n.data.toList).bind fun p => l[p]?) = R := ⟨_, rfl⟩
 rw [hR]
 have HRes := Lib.hid hR
 clear hR
 obtain ⟨N, hN⟩ : ∃ N, l.length = N := ⟨_, rfl⟩
 rw [hN] at HP hl ⊢
 have HN := Lib.hid hN
 obtain ⟨Bz, hBz⟩ : ∃ Bz, w.heap.size = Bz := ⟨_, rfl⟩
 have hs1 : (w.alloc (.cells #[.slice a N c] 29)).heap.size = Bz + 1 := by rw [World.size_alloc, hBz]
 have h0 := heap_alloc2_old w (.cells #[.slice a N c] 29) (.cells zeroC 34)
 have h1 := heap_alloc2_new w (.cells #[.slice a N c] 29) (.cells zeroC 34)
 rw [hBz] at h0
 rw [hBz] at h1
 have c0 := cell_of_row _ Bz 0 _ _ _ h0
 simp only [List.getElem?_toArray, List.getElem?_cons_zero] at c0
 have Hb0 := Lib.hid (show Below w.heap.size w ((w.alloc (.cells #[.slice a N c] 29)).alloc (.cells zeroC 34)) from ((Below.refl _ w).alloc (Nat.le_refl _) _).alloc (by rw [World.size_alloc]; omega) _)
 have H0 := Lib.hid h0
 have H1 := Lib.hid h1
 have Hsz := Lib.hid (show ((w.alloc (.cells #[.slice a N c] 29)).alloc (.cells zeroC 34)).heap.size = Bz + 2 by rw [World.size_alloc, hs1])
 clear h0 h1 h hal hrow hkf hcf hn hs1
 go_enter Tryz.func66, Tryz.ntmps66
 go_wp2_with fail
 refine (HP.out _ Hb0.out).mono ?_
 rintro e W1 ⟨M, D, rfl, hM, him, hb1⟩
 rw [Hsz.out] at hb1
 have HI := Lib.hid him
 have HB1 := Lib.hid ((hb1.block Bz (by omega)).trans H0.out)
 have HR1 := Lib.hid ((hb1.block (Bz + 1) (by omega)).trans H1.out)
 have Hbw := Lib.hid (Hb0.out.trans (hb1.mono (by omega)))
 have c01 := cell_of_row _ Bz 0 _ _ _ HB1.out
 simp only [List.getElem?_toArray, List.getElem?_cons_zero] at c01
 clear him hb1 hM c0
 cases hp : lastK kf kb (l.map (·.1)) n.data.toList with
 | none =>
  have hh := HI.out.has n.data.toList
  rw [hp] at hh
  have Hh := Lib.hid hh
  have Hr := Lib.hid (show R = none from by rw [← HRes.out, hp]; rfl)
  clear hh hp
  go_wp2_with (first
   | (at_lookup; refine wpList_lookup_own_ok_int _ rfl _ _ 109 rfl 9 3 .i64 lawS Tryz.underlying109 Tryz.underlying3 (Tryz.zeroValue3 _) M N D rfl HI.out.own _ _ rfl (keyS Hn.out) ?_; intro c hat hwc; rw [Hh.out]; clear hat hwc)
   | (refine wpList_store_row rfl 34 _ _ rfl (Bz + 1) zeroC rfl rfl 34 zeroC HR1.out info34b rfl zeroC_one ?_))
  exact bodyPost_ret (v := .tuple #[.agg zeroC, .bool false]) (results_row_tmp rfl _ _ (Bz + 1) 34 zeroC _ _ _ rfl rfl (setRow_heap _ _ _ _ _ _ HR1.out) Tryz.underlying34 rfl info34b) rfl ⟨below_setRow Hbw.out (by omega) _, by rw [Hr.out]⟩
 | some p =>
  obtain ⟨y, hy, -⟩ := lastK_some kf kb hp
  rw [List.getElem?_map, Option.map_eq_some_iff] at hy
  obtain ⟨x, hx, -⟩ := hy
  have hpN : p < N := by
   rw [← HN.out]
   exact (List.getElem?_eq_some_iff.1 hx).1
  have hpz : (p : Int) < (N : Int) := by omega
  have Hr := Lib.hid (show R = some x from by rw [← HRes.out, hp]; exact hx)
  obtain ⟨g, o, rfl, hcap, hg, hr⟩ := HRow.out (fun e => by rw [e] at hx; simp at hx)
  have Hran := Lib.hid ((hr.below hg Hbw.out).at_ p x hx)
  have hxm := List.mem_of_getElem? hx
  have HC := Lib.hid (fun W (hW : Below w.heap.size w W) => cloneDev_any x.1 x.2 W (HAl.out x hxm) ((hr.ats x hxm).below hW))
  have hh := HI.out.has n.data.toList
  have hat' := HI.out.val n.data.toList p hp
  rw [hp] at hh
  have Hh := Lib.hid hh
  have Hat := Lib.hid hat'
  clear hh hp hat' hr hg hx hxm
  go_wp2_with (first
   | (at_lookup; refine wpList_lookup_own_ok_int _ rfl _ _ 109 rfl 9 3 .i64 lawS Tryz.underlying109 Tryz.underlying3 (Tryz.zeroValue3 _) M N D rfl HI.out.own _ _ rfl (keyS Hn.out) ?_; intro c hat hwc; rw [Hh.out]; rw [Hat.out] at hat; obtain rfl : (p : Int) = c := (by simpa using hat); clear hat hwc)
   | (refine wpList_load_mid rfl 34 _ rfl g (o + p * 10) rfl (dvC x.1 x.2) _ Hran.out Tryz.underlying34 rfl info34b ?_))
  have hcall : Calls Tryz.prog 65 #[.agg (dvC x.1 x.2).toArray] W1 (fun e w' => ∃ u, e = .returned (devV (devOf x.1 u)) ∧ Owns w' W1.heap.size u x.1.ats ∧ Below W1.heap.size W1 w') := HC.out W1 Hbw.out
  refine hcall.mono ?_
  clear hcall
  rintro e W2 ⟨u, rfl, hown, hb2⟩
  have hW1 : Bz + 1 < W1.heap.size := (Array.getElem?_eq_some_iff.1 HR1.out).1
  have HR2 := Lib.hid ((hb2.block (Bz + 1) hW1).trans HR1.out)
  have Hone := Lib.hid (show (dvC x.1 u).toArray.all (·.oneCell') = true from by
   rw [Array.all_eq_true_iff_forall_mem]
   intro v hv
   exact dvC_one hown.has.one v (by simpa using hv))
  have Hown := Lib.hid (show Owns (W2.setRow (Bz + 1) (dvC x.1 u).toArray) w.heap.size u x.1.ats from (hown.keep fun b _ hb => setRow_other _ _ _ _ (by have := ((show W2.ownsRow W1.heap.size 99 2 u x.1.ats.length (cellsP x.1.ats) from hown).lt b hb).1; omega)).mono Hbw.out.size)
  have HbF := Lib.hid (show Below w.heap.size w (W2.setRow (Bz + 1) (dvC x.1 u).toArray) from below_setRow (Hbw.out.trans (hb2.mono Hbw.out.size)) (by omega) _)
  clear hown hb2 hW1
  go_wp2_with (refine wpList_store_row rfl 34 _ _ rfl (Bz + 1) (dvC x.1 u).toArray rfl rfl 34 zeroC HR2.out info34b rfl Hone.out ?_)
  exact bodyPost_ret (v := .tuple #[devV (devOf x.1 u), .bool true]) (results_row_tmp rfl _ _ (Bz + 1) 34 (dvC x.1 u).toArray _ _ _ rfl rfl (setRow_heap _ _ _ _ _ _ HR2.out) Tryz.underlying34 rfl info34b) rfl ⟨HbF.out, by rw [Hr.out]; exact ⟨u, rfl, Hown.out⟩⟩
set_option maxHeartbeats 1000000 in
set_option maxRecDepth 100000 in
theorem interface_any (kf : ADev → ByteArray) (kb : ADev → Bool) (sv : Value) (l : List DV) (n : ByteArray) (w : World) (hl : l.length ≤ 1000000) (hal : ∀ x ∈ l, x.1.ats.length ≤ 1000000) (h : DHas w sv l) (hkf : ∀ x ∈ l, (kf x.1).size ≤ 4611686018427387904) (hcf : ∀ x ∈ l, ∀ W, Below w.heap.size w W → Calls Tryz.prog 67 #[.agg (dvC x.1 x.2).toArray] W (Bel (.tuple #[.string (kf x.1), .bool (kb x.1)]) W)) (hn : n.size ≤ 4611686018427387904) :
  Calls Tryz.prog 26 #[.agg #[sv], .string n] w (FoundPost ((lastK kf kb (l.map (·.1)) n.data.toList).bind fun p => l[p]?) w) := by
 obtain ⟨a, c, hsv, _⟩ := h.form
 have HL := Lib.hid (fun W (hW : Below w.heap.size w W) => lookupS67_any kf kb sv l n W hl hal (h.below hW) hkf (fun x hx W2 hb => hcf x hx W2 (hW.trans (hb.mono hW.size))) hn)
 obtain ⟨R, hR⟩ : ∃ R, ((lastK kf kb (l.map (·.1)) n.data.toList).bind fun p => l[p]?) = R := ⟨_, rfl⟩
 rw [hR] at HL ⊢
 obtain ⟨N, hN⟩ : ∃ N, l.length = N := ⟨_, rfl⟩
 rw [hN] at hsv
 obtain ⟨Bz, hBz⟩ : ∃ Bz, w.heap.size = Bz := ⟨_, rfl⟩
 subst hsv
 have hs1 : (w.alloc (.cells #[.slice a N c] 29)).heap.size = Bz + 1 := by rw [World.size_alloc, hBz]
 have h1 := heap_alloc2_new w (.cells #[.slice a N c] 29) (.cells zeroC 34)
 rw [hBz] at h1
 have Hb0 := Lib.hid (show Below w.heap.size w ((w.alloc (.cells #[.slice a N c] 29)).alloc (.cells zeroC 34)) from ((Below.refl _ w).alloc (Nat.le_refl _) _).alloc (by rw [World.size_alloc]; omega) _)
 have H1 := Lib.hid h1
 have Hsz := Lib.hid (show ((w.alloc (.cells #[.slice a N c] 29)).alloc (.cells zeroC 34)).heap.size = Bz + 2 by rw [World.size_alloc, hs1])
 clear h1 h hal hkf hcf hn hs1 hR hN
 go_enter Tryz.func26, Tryz.ntmps26
 go_wp2_with fail
 refine (HL.out _ Hb0.out).mono ?_
 rintro e W1 ⟨hb1, hr⟩
 rw [Hsz.out] at hb1
 have HR1 := Lib.hid ((hb1.block (Bz + 1) (by omega)).trans H1.out)
 have Hbw := Lib.hid (Hb0.out.trans (hb1.mono (by omega)))
 clear hb1
 cases R with
 | none =>
  obtain rfl := hr
  go_wp2_with (refine wpList_store_row rfl 34 _ _ rfl (Bz + 1) zeroC rfl rfl 34 zeroC HR1.out info34b rfl zeroC_one ?_)
  exact bodyPost_ret (v := .tuple #[.agg zeroC, .bool false]) (results_row_tmp rfl _ _ (Bz + 1) 34 zeroC _ _ _ rfl rfl (setRow_heap _ _ _ _ _ _ HR1.out) Tryz.underlying34 rfl info34b) rfl ⟨below_setRow Hbw.out (by omega) _, rfl⟩
 | some x =>
  obtain ⟨u, rfl, hown⟩ := hr
  rw [Hsz.out] at hown
  have Hone := Lib.hid (show (dvC x.1 u).toArray.all (·.oneCell') = true from by
   rw [Array.all_eq_true_iff_forall_mem]
   intro v hv
   exact dvC_one hown.has.one v (by simpa using hv))
  have Hown := Lib.hid (show Owns (W1.setRow (Bz + 1) (dvC x.1 u).toArray) w.heap.size u x.1.ats from (hown.keep fun b _ hb => setRow_other _ _ _ _ (by have := ((show W1.ownsRow (Bz + 2) 99 2 u x.1.ats.length (cellsP x.1.ats) from hown).lt b hb).1; omega)).mono (by omega))
  clear hown
  go_wp2_with (refine wpList_store_row rfl 34 _ _ rfl (Bz + 1) (dvC x.1 u).toArray rfl rfl 34 zeroC HR1.out info34b rfl Hone.out ?_)
  exact bodyPost_ret (v := .tuple #[devV (devOf x.1 u), .bool true]) (results_row_tmp rfl _ _ (Bz + 1) 34 (dvC x.1 u).toArray _ _ _ rfl rfl (setRow_heap _ _ _ _ _ _ HR1.out) Tryz.underlying34 rfl info34b) rfl ⟨below_setRow Hbw.out (by omega) _, ⟨u, rfl, Hown.out⟩⟩
end Go.Proofs.YtldcediiobfhiaaGreatDoor.De
namespace Go.Proofs.YtldcediiobfhiaaGreatDoor
open Go.RowKit
end Go.Proofs.YtldcediiobfhiaaGreatDoor
namespace Go.Proofs.YtldcediiobfhiaaGreatDoor
open Go.RowKit
theorem dhas_ats {W : World} {v : Value} {l : List De.DV} (h : De.DHas W v l) (x : De.DV) (hx : x ∈ l) : De.Has W x.2 x.1.ats := by
 rcases h with ⟨a, c, -, rfl⟩ | ⟨g, o, c, -, -, -, hr⟩
 ·cases hx
 ·exact hr.ats x hx
end Go.Proofs.YtldcediiobfhiaaGreatDoor
