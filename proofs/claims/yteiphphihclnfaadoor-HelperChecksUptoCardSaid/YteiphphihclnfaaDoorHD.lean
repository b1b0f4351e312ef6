/- Lists of attributes that are equal; the reference's Items. -/
import Derived.Test.YteiphphihclnfaaDoorHJ
import Derived.Test.YteiphphihclnfaaDoorNS
namespace Go.Proofs.YteiphphihclnfaaDoor
open Go.RowKit Go.Shelf
open Go.Proofs.YteiphphihclnfaaDoor.Nm
theorem bs_eq (a b : List UInt8) : ((bs a).toList == (bs b).toList) = (a == b) := by rw [toL, toL]
set_option maxRecDepth 100000 in
set_option maxHeartbeats 4000000 in
/-- SameAttrs of one list, in two places. -/
theorem sameAttrs_refl {l : List Atb} (hl : l.length ≤ 1000000) {v v' : Value} {w : World} (hv : atT.Has w v l) (hv' : atT.Has w v' l) :
    Calls Tryd.prog 18 #[v, v'] w fun e w' => e = .returned (.bool true) ∧ Kp [] w w' := by
  obtain ⟨va, vc, rfl, hrow⟩ := hv.form
  obtain ⟨va', vc', rfl, hrow'⟩ := hv'.form
  have HROW := Lib.hid hrow
  have HROW' := Lib.hid hrow'
  clear hrow hrow' hv hv'
  go_enter Tryd.func18, Tryd.ntmps18
  go_wp2
  go_loopg [5] l.length (fun g s5 wx => ∃ i : Nat, s5 = .int .i64 (i : Int) ∧ i + g = l.length ∧ Kp [] w wx)
  case atStart => exact ⟨0, rfl, by omega, Kp.refl _ _⟩
  case round =>
    obtain ⟨i, rfl, hig, hkp⟩ := hrel
    have HK := Lib.hid hkp
    by_cases hi : i < l.length
    · obtain ⟨g, rfl⟩ : ∃ g, gk = g + 1 := ⟨gk - 1, by omega⟩
      obtain ⟨b, o, rfl, hbl, hr⟩ := HROW.out (by rintro rfl; simp at hi)
      obtain ⟨b', o', rfl, hbl', hr'⟩ := HROW'.out (by rintro rfl; simp at hi)
      obtain ⟨x, hx⟩ : ∃ x, l[i]? = some x := ⟨_, List.getElem?_eq_getElem hi⟩
      have hiz : (i : Int) < (l.length : Int) := by omega
      obtain ⟨c0, c1⟩ := atRow (hr.keep (hkp.block b hbl (by simp))) hx
      obtain ⟨d0, d1⟩ := atRow (hr'.keep (hkp.block b' hbl' (by simp))) hx
      have hwi : IntKind.i64.wrap ((i : Int) + 1) = ((i + 1 : Nat) : Int) := by rw [IntKind.wrap_i64]; omega
      have HI := Lib.hid hig
      clear hkp hr hr' hx hig hbl hbl'
      go_wp2
      go_quiet (fail)
      go_wp2
      go_roundg g
      case measure => omega
      case rel => exact ⟨i + 1, rfl, by have := HI.out; omega, HK.out.drew _⟩
    · have hiz : ¬ ((i : Int) < (l.length : Int)) := by omega
      clear hkp hig hi
      go_wp2
      go_ret
      exact ⟨rfl, HK.out⟩
theorem index_byte (c : UInt8) (s : List UInt8) : Lib.index s [c] = Lib.indexByte s c := Lib.index_one s c
theorem pieces_length (c : UInt8) : ∀ l : List UInt8, (pieces c l).length = l.count c + 1
  | [] => rfl
  | x :: r => by
    have ih := pieces_length c r
    unfold pieces
    by_cases h : x = c
    · subst h
      rw [if_pos rfl, List.length_cons, ih, List.count_cons_self]
    · rw [if_neg h, List.count_cons_of_ne h]
      cases hp : pieces c r with
      | nil => exact absurd hp (pieces_ne c r)
      | cons p ps => rw [hp] at ih; simpa using ih
theorem split_pieces (c : UInt8) : ∀ (k : Nat) (s : List UInt8), Lib.count s [c] = k → Lib.splitK [c] 0 k s = pieces c s
  | 0, s, h => by
    have hi : Lib.index s [c] = -1 := by
      have hge := Lib.index_ge s [c]
      by_cases hm : Lib.index s [c] = -1
      · exact hm
      · obtain ⟨i, hi⟩ : ∃ i : Nat, Lib.index s [c] = i := ⟨(Lib.index s [c]).toNat, by omega⟩
        have := Lib.count_hit (by simp) hi
        omega
    rw [pieces_none c s (by rw [← index_byte, hi]; decide)]
    rfl
  | k + 1, s, h => by
    have hge := Lib.index_ge s [c]
    have hm : Lib.index s [c] ≠ -1 := fun e => by rw [Lib.count_miss e] at h; omega
    obtain ⟨i, hi⟩ : ∃ i : Nat, Lib.index s [c] = i := ⟨(Lib.index s [c]).toNat, by omega⟩
    have hc := Lib.count_hit (by simp) hi
    rw [pieces_some c s i (by rw [← index_byte]; exact hi), Lib.splitK, show (Lib.index s [c] == -1) = false by simpa using hm, if_neg Bool.false_ne_true, hi, Int.toNat_natCast, Nat.add_zero]
    have hd : Lib.count (s.drop (i + [c].length)) [c] = k := by omega
    rw [split_pieces c k _ hd]
    rfl
theorem split_any (s : List UInt8) (w : World) (hm : Max w) (hl : s.length ≤ 1000000) : Calls Tryd.prog 31 #[.string (bs s), .string ⟨#[59]⟩] w fun r w' =>
    r = .returned (.slice (some ⟨w.heap.size, 0, none⟩) (pieces 59 s).length (pieces 59 s).length) ∧ stT.Row w' w.heap.size 0 (pieces 59 s) ∧ Kp [] w w' ∧ w.heap.size < w'.heap.size := by
  obtain ⟨m, hm⟩ := hm
  have h := Tryd.strings_Split (bs s) ⟨#[59]⟩ m w (by rw [bs_size]; omega) hm (by decide)
  have hc : Lib.countB (bs s) ⟨#[59]⟩ = Lib.count s [59] := rfl
  have hd := Lib.splitB_data ⟨#[59]⟩ 0 (Lib.countB (bs s) ⟨#[59]⟩) (bs s)
  rw [hc, bs_data, show (⟨#[59]⟩ : ByteArray).data.toList = [59] from rfl, split_pieces 59 _ s rfl] at hd
  have hv : (Lib.splitB ⟨#[59]⟩ 0 (Lib.count s [59]) (bs s)).map Value.string = (pieces 59 s).map fun p => .string (bs p) := by
    rw [← hd, List.map_map]
    refine List.map_congr_left fun x _ => ?_
    show Value.string x = .string (bs x.data.toList)
    rw [bs_of]
  have hn : Lib.count s [59] + 1 = (pieces 59 s).length := by rw [pieces_length, Lib.count_one]
  rw [hc, hv, hn] at h
  refine h.mono fun r w' ⟨h1, h2⟩ => ⟨h1, ?_, by rw [h2]; exact (Kp.refl [] w).alloc _, by rw [h2]; simp⟩
  intro j p hp m u hu
  rw [h2, cell_of_row _ _ _ _ _ _ (heap_alloc_last w _)]
  have hm0 : m = 0 := by
    have := (List.getElem?_eq_some_iff.1 hu).1
    rw [stT.len] at this
    have : m < 1 := this
    omega
  subst hm0
  have hu2 : u = .string (bs p) := by
    have : some (Value.string (bs p)) = some u := hu
    exact (Option.some.inj this).symm
  subst hu2
  have h1 : stT.sz = 1 := rfl
  simp [hp, h1]
theorem kp_own {α : Type} {r : RT α} {w0 w w' : World} {B : Nat} {v : Value} {l : List α} (h : Kp [] w0 w) (hown : r.Own w B v l) (hB : w0.heap.size ≤ B) (hg : w.grownBy w' v.ownBlock) : Kp [] w0 w' :=
  ⟨hg.os.trans h.os, hg.tape.trans h.tape, hg.output.trans h.output, Nat.le_trans h.size hg.size, fun k hk _ => (hg.block k (Nat.lt_of_lt_of_le hk h.size) (fun e => by have := (hown.ge k e.symm).1; omega)).trans (h.block k hk (by simp))⟩
theorem cut_no {p : List UInt8} (h : (Lib.cut p [61]).2.2 = false) : (Lib.cut p [61]).2.1 = [] := by
  unfold Lib.cut at h ⊢
  split at h
  · cases h
  · rename_i h1; rw [if_neg h1]
theorem refKey_kp {s : List UInt8} (hs : s.length ≤ 1000000) (w : World) : Calls Tryd.prog 32 #[.string (bs s)] w fun e w' => e = .returned (.bool (keyB s)) ∧ Kp [] w w' :=
  (refKey_any (bs s) w (by rw [bs_size]; omega)).mono fun _ _ ⟨h1, h2⟩ => ⟨h1, by rw [h2]; exact Kp.refl _ _⟩
def onTo (s : List UInt8) (i : Nat) : List Atb := ((pieces 59 s).take i).filterMap itemOf
theorem onTo_step {s : List UInt8} {i : Nat} {p : List UInt8} (hp : (pieces 59 s)[i]? = some p) : onTo s (i + 1) = onTo s i ++ (itemOf p).toList := by
  unfold onTo
  rw [List.take_add_one, hp, List.filterMap_append]
  congr 1
theorem onTo_len (s : List UInt8) (i : Nat) : (onTo s i).length ≤ s.length + 1 := by
  unfold onTo
  have h1 := List.length_filterMap_le itemOf ((pieces 59 s).take i)
  have h2 := pieces_count 59 s
  rw [List.length_take] at h1
  omega
theorem pieces_short {s p : List UInt8} {i : Nat} (hp : (pieces 59 s)[i]? = some p) : p.length ≤ s.length := pieces_len 59 s p (List.mem_of_getElem? hp)
set_option maxHeartbeats 8000000 in
set_option maxRecDepth 100000 in
theorem refItems_any {s : List UInt8} (hs : s.length ≤ 100000) {w : World} (hmx : Max w) :
    Calls Tryd.prog 20 #[.string (bs s)] w fun e w' => ∃ v, e = .returned v ∧ atT.Own w' w.heap.size v (itemsL s) ∧ Kp [] w w' := by
  have HS := Lib.hid (split_any s w hmx (by omega))
  have hm0 := hmx.lt
  have HMX := Lib.hid fun W (h : Kp [] w W) => hmx.kp h (by simp)
  have hcn := pieces_count 59 s
  obtain ⟨n, hn⟩ : ∃ n, (pieces 59 s).length = n := ⟨_, rfl⟩
  rw [hn] at HS hcn
  have HN := Lib.hid hn
  obtain ⟨A, hA⟩ : ∃ A, w.heap.size = A := ⟨_, rfl⟩
  rw [hA] at HS
  have HA := Lib.hid hA
  clear hmx hn hA hm0
  go_enter Tryd.func20, Tryd.ntmps20
  go_wp2_with (go_at_call 31; refine Calls.mono (by with_reducible exact HS.out) ?_; rintro e w1 ⟨rfl, hrow, hk1, hlt⟩; have HROW := Lib.hid hrow; have HK1 := Lib.hid hk1; clear hrow hk1)
  go_loopg [3, 5] n (fun g s3 s5 wx => ∃ i : Nat, s5 = .int .i64 (i : Int) ∧ atT.Own wx w1.heap.size s3 (onTo s i) ∧ i + g = n ∧ Kp [] w1 wx)
  case atStart => exact ⟨0, rfl, RT.Own.nil _ _ _, by omega, Kp.refl _ _⟩
  case round =>
    obtain ⟨i, rfl, hown, hig, hkp⟩ := hrel
    have HK := Lib.hid hkp
    have HI := Lib.hid hig
    by_cases hi : i < n
    · obtain ⟨g, rfl⟩ : ∃ g, gk = g + 1 := ⟨gk - 1, by omega⟩
      obtain ⟨p, hp⟩ : ∃ p, (pieces 59 s)[i]? = some p := ⟨_, List.getElem?_eq_getElem (by rw [HN.out]; exact hi)⟩
      have hiz : (i : Int) < (n : Int) := by omega
      have hwi : IntKind.i64.wrap ((i : Int) + 1) = ((i + 1 : Nat) : Int) := by rw [IntKind.wrap_i64]; omega
      have hc0 : wr.cell? ⟨A, i, none⟩ = some (.string (bs p)) := by
        have h1 := (HROW.out.keep (hkp.block A hlt (by simp))) i p hp 0 _ rfl
        rw [show stT.sz = 1 from rfl] at h1
        simpa using h1
      have hps := pieces_short hp
      have hpl : (onTo s i).length ≤ 1000000 := by have := onTo_len s i; omega
      have hst := onTo_step hp
      have hc1 := cut_len p
      have hcut := cut_any (p := bs p) (by rw [bs_size]; omega) (HMX.out wr (HK1.out.trans hkp))
      rw [bs_data] at hcut
      have hno := fun h => itemOf_no (p := p) h
      have hem := fun h => itemOf_empty (p := p) h
      have hye := fun h h2 => itemOf_yes (p := p) h h2
      have hcn2 := fun h => cut_no (p := p) h
      generalize (Lib.cut p [61]).1 = K at hcut hno hem hye hc1
      generalize (Lib.cut p [61]).2.1 = V at hcut hno hem hye hc1 hcn2
      generalize (Lib.cut p [61]).2.2 = ok at hcut hcn2
      have hkl : K.length ≤ 1000000 := by omega
      have Hcut := Lib.hid hcut
      have HOWN := Lib.hid hown
      clear hcut hkp hig hown hp hps hc1
      cases ok with
      | false =>
        have Hst := Lib.hid (show onTo s (i + 1) = onTo s i by rw [hst, hem (hcn2 rfl)]; simp)
        clear hst hno hem hye hcn2
        go_wp2_with (go_at_call 30; refine Calls.mono (by with_reducible exact Hcut.out) ?_; rintro e w2 ⟨rfl, hk2⟩; have HK2 := Lib.hid hk2; clear hk2)
        go_roundg g
        case measure => omega
        case rel => exact ⟨i + 1, rfl, by rw [Hst.out]; exact HOWN.out.kp0 HK2.out, by have := HI.out; omega, HK.out.trans HK2.out⟩
      | true =>
        have HKey := Lib.hid fun W => refKey_kp hkl W
        obtain ⟨kb, hkb⟩ : ∃ kb, keyB K = kb := ⟨_, rfl⟩
        rw [hkb] at HKey
        cases kb with
        | false =>
          have Hst := Lib.hid (show onTo s (i + 1) = onTo s i by rw [hst, hno hkb]; simp)
          clear hst hno hem hye hcn2 hkb
          go_wp2_with (first | (go_at_call 30; refine Calls.mono (by with_reducible exact Hcut.out) ?_; rintro e w2 ⟨rfl, hk2⟩; have HK2 := Lib.hid hk2; clear hk2) | (go_at_call 32; refine Calls.mono (by with_reducible exact HKey.out _) ?_; rintro e w3 ⟨rfl, hk3⟩; have HK3 := Lib.hid (HK2.out.trans hk3); clear hk3))
          go_roundg g
          case measure => omega
          case rel => exact ⟨i + 1, rfl, by rw [Hst.out]; exact HOWN.out.kp0 HK3.out, by have := HI.out; omega, HK.out.trans HK3.out⟩
        | true =>
          by_cases hV : V = []
          · have hVe : (bs V).toList.isEmpty = true := empty_form hV
            have Hst := Lib.hid (show onTo s (i + 1) = onTo s i by rw [hst, hem hV]; simp)
            clear hst hno hem hye hcn2 hkb hV
            go_wp2_with (first | (go_at_call 30; refine Calls.mono (by with_reducible exact Hcut.out) ?_; rintro e w2 ⟨rfl, hk2⟩; have HK2 := Lib.hid hk2; clear hk2) | (go_at_call 32; refine Calls.mono (by with_reducible exact HKey.out _) ?_; rintro e w3 ⟨rfl, hk3⟩; have HK3 := Lib.hid (HK2.out.trans hk3); clear hk3))
            go_roundg g
            case measure => omega
            case rel => exact ⟨i + 1, rfl, by rw [Hst.out]; exact HOWN.out.kp0 HK3.out, by have := HI.out; omega, HK.out.trans HK3.out⟩
          · have hVe : (bs V).toList.isEmpty = false := nonempty_form hV
            have Hst := Lib.hid (show onTo s (i + 1) = onTo s i ++ [(K, V)] by rw [hst, hye hkb hV]; rfl)
            clear hst hno hem hye hcn2 hkb hV
            go_wp2_with (first | (go_at_call 30; refine Calls.mono (by with_reducible exact Hcut.out) ?_; rintro e w2 ⟨rfl, hk2⟩; have HK2 := Lib.hid hk2; clear hk2) | (go_at_call 32; refine Calls.mono (by with_reducible exact HKey.out _) ?_; rintro e w3 ⟨rfl, hk3⟩; obtain ⟨w4, hw4⟩ : ∃ w4, w3.alloc (.cells #[.string (bs K), .string (bs V)] 50) = w4 := ⟨_, rfl⟩; obtain ⟨E, hE⟩ : ∃ E, w3.heap.size = E := ⟨_, rfl⟩; have HE := Lib.hid (show w4.rangeAt E 0 (atT.cf (K, V)) from fun m u hu => (by rw [← hw4, ← hE, cell_of_row _ _ _ _ _ _ (heap_alloc_last w3 _), Nat.zero_add]; simpa [atT] using hu)); have HK4 := Lib.hid (show Kp [] wr w4 from (by rw [← hw4]; exact (HK2.out.trans hk3).alloc _)); clear hk3) | (at_builtin; refine wpList_append_r (r := atT) rfl _ _ rfl w1.heap.size _ (onTo s i) rfl (HOWN.out.kp0 HK4.out) E 1 (K, V) rfl HE.out hpl (Nat.le_trans HK.out.size HK4.out.size) ?_; intro v1 w5 hown1 hg1; have HOWN1 := Lib.hid hown1; have HK5 := Lib.hid (kp_own (HK.out.trans HK4.out) (HOWN.out.kp0 HK4.out) (Nat.le_refl _) hg1); clear hown1 hg1))
            go_roundg g
            case measure => omega
            case rel => exact ⟨i + 1, rfl, by rw [Hst.out]; exact HOWN1.out, by have := HI.out; omega, HK5.out⟩
    · have hiz : ¬ ((i : Int) < (n : Int)) := by omega
      have hie : onTo s i = itemsL s := by
        unfold onTo itemsL
        rw [List.take_of_length_le (by rw [HN.out]; omega)]
      rw [hie] at hown
      have HOWN := Lib.hid hown
      clear hkp hig hi hie hown
      go_wp2
      go_ret
      exact ⟨_, rfl, HOWN.out.down HK1.out.size, HK1.out.trans HK.out⟩
end Go.Proofs.YteiphphihclnfaaDoor
