/- Literal; the reference's Literal and Prefix. -/
import Derived.Test.YtapiofcdifligaaDoorRK
namespace Go.Proofs.YtapiofcdifligaaDoor
open Go.RowKit

/-- The only text of a pattern without wildcards. -/
def litL (L : List (List El)) : Option (List UInt8) := match L with
  | [a] => if (begB a).length < a.length then none else some (begB a)
  | _ => none
def litB (p : List UInt8) : Option (List UInt8) := (altsP p).bind litL
def litRes (p : List UInt8) : Value := .tuple #[strOf (litB p), .bool (litB p).isSome]

set_option maxHeartbeats 400000 in
set_option maxRecDepth 100000 in
theorem literal_any (p : ByteArray) (w : World) (hp : p.size ≤ 4611686018427387904) (hT : TabAt w) : Calls Tryd.prog 17 #[.string p] w (Bel (litRes p.data.toList) w) := by
  unfold litRes litB
  cases h : altsP p.data.toList with
  | none =>
    have hc := comp_none h hp
    have hne : (errP p.data.toList == 0) = false := by
      rcases errP_none h with h1 | h1 <;> rw [h1] <;> rfl
    have hne2 : (errP p.data.toList != 0) = true := by
      rcases errP_none h with h1 | h1 <;> rw [h1] <;> rfl
    generalize errP p.data.toList = E at *
    have Hc := Lib.hid hc
    clear hc h
    go_enter Tryd.func17, Tryd.ntmps17
    go_wp2_with fail
    refine (Hc.out _).mono ?_
    rintro e W1 ⟨rfl, hb⟩
    go_wp2
    go_ret2
    exact ⟨rfl, hb⟩
  | some L =>
    have hc := comp_some h hp
    obtain ⟨hne, hlen, hgood⟩ := altsP_good h
    have Hc := Lib.hid hc
    clear hc h
    rw [Option.bind_some]
    match L, hne, hlen, hgood, Hc with
    | [], hne, _, _, _ => exact absurd rfl hne
    | a :: b :: r, _, hlen, _, Hc =>
      have hv : litL (a :: b :: r) = none := rfl
      rw [hv]
      have h1 : (((a :: b :: r).length : Nat) : Int) ≠ 1 := by simp; omega
      have hl2 : (((a :: b :: r).length : Nat) : Int) ≤ 257 := by omega
      obtain ⟨N, hN⟩ : ∃ N, (a :: b :: r).length = N := ⟨_, rfl⟩
      have h2 : ((N : Int) != 1) = true := by rw [← hN]; exact bne_iff_ne.2 h1
      rw [hN] at hl2
      have HN := Lib.hid hN
      clear h1 hN hv hlen
      go_enter Tryd.func17, Tryd.ntmps17
      go_wp2_with fail
      refine (Hc.out _).mono ?_
      rintro e W1 ⟨hb, v, rfl, hv⟩
      obtain ⟨G, cap, rfl, hG, hcap, hrows⟩ := hv
      rw [HN.out]
      clear hrows
      go_wp2
      go_ret2
      exact ⟨rfl, hb⟩
    | [a], _, _, hgood, Hc =>
      have hal := (hgood a List.mem_cons_self).1
      have hbl : (begB a).length ≤ a.length := begB_len a
      obtain ⟨bt, hbt⟩ : ∃ u : ByteArray, (⟨(begB a).toArray⟩ : ByteArray) = u := ⟨_, rfl⟩
      have hbs : bt.size = (begB a).length := by rw [← hbt, Lib.size_eq]
      have hT' := Lib.hid hT
      have hl1 : ([a] : List (List El)).length = 1 := rfl
      go_enter Tryd.func17, Tryd.ntmps17
      go_wp2_with fail
      refine (Hc.out _).mono ?_
      rintro e W1 ⟨hb, v, rfl, hv⟩
      obtain ⟨G, cap, rfl, hG, hcap, hrows⟩ := hv
      obtain ⟨aj, cj, gj, hc0, h1, h2, h3⟩ := hrows 0 a rfl
      have Hbeg := Lib.hid (beginning_any aj cj gj a W1 h1 h3 (by omega) (hT'.out.below hb) h2)
      rw [hbt] at Hbeg
      rw [hl1]
      rw [hl1] at hcap
      obtain ⟨n, hn⟩ : ∃ n, a.length = n := ⟨_, rfl⟩
      rw [hn] at hc0 hal hbl Hbeg
      have HV := Lib.hid (show litL [a] = if (begB a).length < a.length then none else some (begB a) from rfl)
      rw [hn] at HV
      clear hrows h1 h2 h3 hn Hc hgood hl1
      go_wp2_with fail
      refine Hbeg.out.mono ?_
      rintro e W2 ⟨rfl, hb2⟩
      have hc2 := (hb2.cell (p := ⟨G, 0, none⟩) hG).trans hc0
      have Hbw := Lib.hid (hb.trans (hb2.mono hb.size))
      clear hb hb2 hc0 Hbeg hT
      by_cases hlt : (bt.size : Int) < (n : Int)
      · have hv : litL [a] = none := by rw [HV.out, if_pos (by omega)]
        have Hv := Lib.hid hv
        clear hv HV
        go_wp2
        go_ret2
        exact ⟨by rw [Hv.out]; rfl, Hbw.out⟩
      · have hv : litL [a] = some (begB a) := by rw [HV.out, if_neg (by omega)]
        have Hv := Lib.hid hv
        have Hbt := Lib.hid hbt
        clear hv HV hbt
        go_wp2
        go_ret2
        exact ⟨by rw [Hv.out, ← Hbt.out]; rfl, Hbw.out⟩


theorem palts_head {w : World} {v : Value} {a : List El} {r : List (List El)} (h : PAltsAt w v (a :: r)) : ∃ G cap aj cj, v = .slice (some ⟨G, 0, none⟩) (r.length + 1) cap ∧ w.cell? ⟨G, 0, none⟩ = some (.slice aj a.length cj) ∧ PSl w (.slice aj a.length cj) a ∧ G < w.heap.size := by
  obtain ⟨G, cap, hv, hG, _, hrow⟩ := h
  obtain ⟨aj, cj, gj, hc, h1, h2, h3⟩ := hrow 0 a rfl
  exact ⟨G, cap, aj, cj, hv, hc, ⟨aj, cj, gj, rfl, h1, h2, h3⟩, hG⟩

set_option maxHeartbeats 1000000 in
set_option maxRecDepth 100000 in
theorem refLiteral_any (p : ByteArray) (w : World) (hp : p.size ≤ 4611686018427387904) : Calls Tryd.prog 18 #[.string p] w (Bel (litRes p.data.toList) w) := by
  have hck := fun W => refCheck_any p W hp
  unfold litRes litB
  cases h : altsP p.data.toList with
  | none =>
    have hne : (errP p.data.toList != 0) = true := by
      rcases errP_none h with h1 | h1 <;> rw [h1] <;> rfl
    generalize errP p.data.toList = E at *
    have Hck := Lib.hid hck
    clear hck h
    go_enter Tryd.func18, Tryd.ntmps18
    go_wp2_with fail
    refine (Hck.out _).mono ?_
    rintro e W1 ⟨rfl, hb⟩
    go_wp2
    go_ret2
    exact ⟨rfl, hb⟩
  | some L =>
    rw [errP_some h] at hck
    obtain ⟨hne, hlen, hgood⟩ := altsP_good h
    have hps := parse_some h (altsP_short h)
    rw [Option.bind_some]
    have Hck := Lib.hid hck
    have Hps := Lib.hid hps
    clear hck hps h
    match L, hne, hlen, hgood, Hps with
    | [], hne, _, _, _ => exact absurd rfl hne
    | a :: r, _, hlen, hgood, Hps =>
      have hal := (hgood a List.mem_cons_self).1
      have hbl : (begB a).length ≤ a.length := begB_len a
      have Hga := Lib.hid (hgood a List.mem_cons_self).2
      obtain ⟨bt, hbt⟩ : ∃ u : ByteArray, (⟨(begB a).toArray⟩ : ByteArray) = u := ⟨_, rfl⟩
      have hbs : bt.size = (begB a).length := by rw [← hbt, Lib.size_eq]
      have Hbt := Lib.hid hbt
      have Hbs := Lib.hid hbs
      have Hbl := Lib.hid hbl
      have Hlen := Lib.hid hlen
      clear hgood hbt hbs hbl hlen
      go_enter Tryd.func18, Tryd.ntmps18
      go_wp2_with fail
      refine (Hck.out _).mono ?_
      rintro e W1 ⟨rfl, hb⟩
      have Hb := Lib.hid hb
      clear hb
      go_wp2_with fail
      refine (Hps.out _).mono ?_
      rintro e W2 ⟨hb2, v, rfl, hv⟩
      obtain ⟨G, cap, aj, cj, rfl, hc0, hpsl, hG⟩ := palts_head hv
      have Hbeg := Lib.hid (refBeginning_any a (.slice aj a.length cj) W2 hal Hga.out hpsl)
      rw [Hbt.out] at Hbeg
      have Hb2 := Lib.hid (Hb.out.trans (hb2.mono Hb.out.size))
      clear hb2 hv hpsl
      obtain ⟨n, hn⟩ : ∃ n, a.length = n := ⟨_, rfl⟩
      have HN := Lib.hid hn
      rw [hn] at hc0 Hbeg hal
      clear hn
      obtain ⟨m, hm⟩ : ∃ m, r.length = m := ⟨_, rfl⟩
      have HM := Lib.hid hm
      rw [hm]
      have hmi : (m : Int) ≤ 300 := by
        have := Hlen.out
        rw [List.length_cons, hm] at this
        omega
      clear hm
      have hpos : (0 : Int) < (m : Int) + 1 := by omega
      go_wp2_with fail
      refine Hbeg.out.mono ?_
      rintro e W3 ⟨rfl, hb3⟩
      have hc3 := (hb3.cell (p := ⟨G, 0, none⟩) hG).trans hc0
      have Hb3 := Lib.hid (Hb2.out.trans (hb3.mono Hb2.out.size))
      clear hb3 hc0
      by_cases hm0 : m = 0
      · have hm1 : ((m : Int) + 1 != 1) = false := by rw [bne, Bool.not_eq_false', beq_iff_eq]; omega
        by_cases hlt : bt.size = n
        · have hv : litL (a :: r) = some (begB a) := by
            have hr : r = [] := List.length_eq_zero_iff.1 (by rw [HM.out, hm0])
            rw [hr]
            show (if (begB a).length < a.length then none else some (begB a)) = _
            rw [if_neg (by rw [HN.out, ← Hbs.out]; omega)]
          have Hv := Lib.hid hv
          have hq : ((bt.size : Int) != (n : Int)) = false := by rw [hlt]; simp
          clear hv hlt
          subst hm0
          go_wp2
          go_ret2
          exact ⟨by rw [Hv.out, ← Hbt.out]; rfl, Hb3.out⟩
        · have hv : litL (a :: r) = none := by
            have hr : r = [] := List.length_eq_zero_iff.1 (by rw [HM.out, hm0])
            rw [hr]
            show (if (begB a).length < a.length then none else some (begB a)) = _
            rw [if_pos (by have := Hbl.out; have := Hbs.out; have := HN.out; omega)]
          have Hv := Lib.hid hv
          have hq : ((bt.size : Int) != (n : Int)) = true := by rw [bne_iff_ne]; omega
          clear hv hlt
          subst hm0
          go_wp2
          go_ret2
          exact ⟨by rw [Hv.out]; rfl, Hb3.out⟩
      · have hm1 : ((m : Int) + 1 != 1) = true := by rw [bne_iff_ne]; omega
        have hv : litL (a :: r) = none := by
          cases hr : r with
          | nil => exact absurd (by rw [← HM.out, hr]; rfl) hm0
          | cons b t => rfl
        have Hv := Lib.hid hv
        clear hv hm0
        go_wp2
        go_ret2
        exact ⟨by rw [Hv.out]; rfl, Hb3.out⟩

theorem same_full {s t : List UInt8} {n : Nat} (h : s.take n = t.take n) (hs : n ≤ s.length) (ht : n ≤ t.length) (he : n = s.length ∨ n = t.length) : sameB s t = n := by
  rw [sameB_at h hs ht]
  rcases he with rfl | rfl
  · rw [List.drop_length]
    simp [sameB]
  · rw [List.drop_length]
    cases s.drop t.length <;> simp [sameB]
theorem same_differ {s t : List UInt8} {n : Nat} {x y : UInt8} (h : s.take n = t.take n) (hs : s[n]? = some x) (ht : t[n]? = some y) (hxy : x ≠ y) : sameB s t = n := by
  have h1 := (List.getElem?_eq_some_iff.1 hs).1
  have h2 := (List.getElem?_eq_some_iff.1 ht).1
  rw [sameB_at h (by omega) (by omega), drop_at8 hs, drop_at8 ht, sameB, if_neg hxy]
  rfl

set_option maxHeartbeats 1000000 in
set_option maxRecDepth 100000 in
theorem refPrefix_any (p : ByteArray) (w : World) (hp : p.size ≤ 4611686018427387904) : Calls Tryd.prog 20 #[.string p] w (Bel (.tuple #[.string ⟨((altsP p.data.toList).elim [] prefB).toArray⟩, .int .i64 (errP p.data.toList)]) w) := by
  have hck := fun W => refCheck_any p W hp
  cases h : altsP p.data.toList with
  | none =>
    have hne : (errP p.data.toList != 0) = true := by
      rcases errP_none h with h1 | h1 <;> rw [h1] <;> rfl
    generalize errP p.data.toList = E at *
    have Hck := Lib.hid hck
    clear hck h
    go_enter Tryd.func20, Tryd.ntmps20
    go_wp2_with fail
    refine (Hck.out _).mono ?_
    rintro e W1 ⟨rfl, hb⟩
    go_wp2
    go_ret2
    exact ⟨rfl, hb⟩
  | some L =>
    rw [errP_some h] at hck ⊢
    obtain ⟨hne, hlen, hgood⟩ := altsP_good h
    have hps := parse_some h (altsP_short h)
    have Hck := Lib.hid hck
    have Hps := Lib.hid hps
    clear hck hps h
    match L, hne, hlen, hgood, Hps with
    | [], hne, _, _, _ => exact absurd rfl hne
    | a :: r, _, hlen, hgood, Hps =>
      have hal := (hgood a List.mem_cons_self).1
      have hbl : (begB a).length ≤ 256 := Nat.le_trans (begB_len a) hal
      have Hga := Lib.hid (hgood a List.mem_cons_self).2
      have Hgr := Lib.hid (fun x (hx : x ∈ r) => hgood x (List.mem_cons_of_mem _ hx))
      obtain ⟨bt, hbt⟩ : ∃ u : ByteArray, (⟨(begB a).toArray⟩ : ByteArray) = u := ⟨_, rfl⟩
      have hbd : bt.data.toList = begB a := by rw [← hbt]
      have hbs : bt.size ≤ 256 := by rw [Lib.size_eq, hbd]; exact hbl
      have Hbt := Lib.hid hbt
      have Hbd := Lib.hid hbd
      have Hlen := Lib.hid hlen
      clear hgood hbt hbd hbl hlen
      obtain ⟨R, hR⟩ : ∃ R, prefB (a :: r) = R := ⟨_, rfl⟩
      have HR := Lib.hid (show r.foldl (fun s x => s.take (sameB s (begB x))) (begB a) = R from hR)
      rw [show (some (a :: r)).elim [] prefB = R from hR]
      clear hR
      go_enter Tryd.func20, Tryd.ntmps20
      go_wp2_with fail
      refine (Hck.out _).mono ?_
      rintro e W1 ⟨rfl, hb⟩
      have Hb := Lib.hid hb
      clear hb
      go_wp2_with fail
      refine (Hps.out _).mono ?_
      rintro e W2 ⟨hb2, v, rfl, hv⟩
      have Hv2 := Lib.hid hv
      obtain ⟨G, cap, aj, cj, rfl, hc0, hpsl, hG⟩ := palts_head hv
      have Hbeg := Lib.hid (refBeginning_any a (.slice aj a.length cj) W2 hal Hga.out hpsl)
      rw [Hbt.out] at Hbeg
      have Hb2 := Lib.hid (Hb.out.trans (hb2.mono Hb.out.size))
      clear hb2 hv hpsl
      obtain ⟨m, hm⟩ : ∃ m, r.length = m := ⟨_, rfl⟩
      have HM := Lib.hid hm
      rw [hm]
      have hmi : (m : Int) ≤ 300 := by
        have := Hlen.out
        rw [List.length_cons, hm] at this
        omega
      clear hm
      have hpos : (0 : Int) < (m : Int) + 1 := by omega
      go_wp2_with fail
      refine Hbeg.out.mono ?_
      rintro e W3 ⟨rfl, hb3⟩
      have Hb23 := Lib.hid hb3
      clear hb3 hc0
      go_wp2
      go_loopw [7, 8] (fun s7 s8 wx => ∃ (k : Nat) (q : ByteArray), k ≤ m ∧ s8 = .int .i64 ((k : Int) + 1) ∧ s7 = .string q ∧ q.data.toList = (r.take k).foldl (fun s x => s.take (sameB s (begB x))) (begB a) ∧ q.size ≤ 256 ∧ Below W2.heap.size W2 wx) (fun _ s8 _ => m + 1 - (intOf s8).toNat)
      case atStart => exact ⟨0, bt, by omega, rfl, rfl, Hbd.out, hbs, Hb23.out⟩
      case round =>
        obtain ⟨k, q, hk, rfl, rfl, hq, hqs, hbx⟩ := hrel
        have Hq := Lib.hid hq
        have Hbx := Lib.hid hbx
        clear hq hbx
        by_cases hlt : (k : Int) < (m : Int)
        · obtain ⟨x, hx⟩ : ∃ x, r[k]? = some x := ⟨r[k]'(by rw [HM.out]; omega), List.getElem?_eq_getElem _⟩
          have hx1 : (a :: r)[k + 1]? = some x := by rw [List.getElem?_cons_succ]; exact hx
          obtain ⟨G', cap', ak, ck, hG', hck, hpk⟩ := palts_get Hv2.out Hbx.out hx1
          obtain ⟨rfl, rfl⟩ : G = G' ∧ cap = cap' := by simpa using hG'
          have hgx := Hgr.out x (List.mem_of_getElem? hx)
          have Hbeg2 := Lib.hid (refBeginning_any x (.slice ak x.length ck) wr hgx.1 hgx.2 hpk)
          have hbl : (begB x).length ≤ 256 := Nat.le_trans (begB_len x) hgx.1
          obtain ⟨bm, hbm⟩ : ∃ u : ByteArray, (⟨(begB x).toArray⟩ : ByteArray) = u := ⟨_, rfl⟩
          have hbmd : bm.data.toList = begB x := by rw [← hbm]
          have hbms : bm.size ≤ 256 := by rw [Lib.size_eq, hbmd]; exact hbl
          rw [hbm] at Hbeg2
          have hnext : ∀ n, sameB q.data.toList bm.data.toList = n → (q.extract 0 n).data.toList = (r.take (k + 1)).foldl (fun s x => s.take (sameB s (begB x))) (begB a) := fun n hn => by
            rw [extract_front, List.take_add_one, hx, List.foldl_append, ← Hq.out, ← hn, hbmd]
            rfl
          have Hnext := Lib.hid hnext
          have hki : (k : Int) + 1 < (m : Int) + 1 := by omega
          clear hx hx1 hG' hgx hpk hbl hbm hbmd hnext Hbeg
          go_wp2_with fail
          refine Hbeg2.out.mono ?_
          rintro e W5 ⟨rfl, hb5⟩
          have Hb5 := Lib.hid (Hbx.out.trans (hb5.mono Hbx.out.size))
          clear hb5
          go_wp2
          go_loopw [10] (fun s10 wx => ∃ n : Nat, n ≤ q.size ∧ n ≤ bm.size ∧ s10 = .int .i64 (n : Int) ∧ q.data.toList.take n = bm.data.toList.take n ∧ Below W2.heap.size W2 wx) (fun s10 _ => q.size - (intOf s10).toNat)
          case atStart => exact ⟨0, by omega, by omega, rfl, rfl, Hb5.out⟩
          case round =>
            obtain ⟨n, hn1, hn2, rfl, htake, hbn⟩ := hrel
            have Htake := Lib.hid htake
            have Hbn := Lib.hid hbn
            clear htake hbn
            have hend : ∀ W n', n' = n → Below W2.heap.size W2 W → sameB q.data.toList bm.data.toList = n → True := fun _ _ _ _ _ => trivial
            clear hend
            by_cases h1 : (n : Int) < (q.size : Int)
            · by_cases h2 : (n : Int) < (bm.size : Int)
              · obtain ⟨y, hy⟩ : ∃ y : UInt8, q[n]'(by omega) = y := ⟨_, rfl⟩
                obtain ⟨z, hz⟩ : ∃ z : UInt8, bm[n]'(by omega) = z := ⟨_, rfl⟩
                have hyl : q.data.toList[n]? = some y := by rw [← hy]; exact Lib.data_getElem? q n (by omega)
                have hzl : bm.data.toList[n]? = some z := by rw [← hz]; exact Lib.data_getElem? bm n (by omega)
                by_cases hyz : y = z
                · have hqq : ((y.toNat : Int) == (z.toNat : Int)) = true := by rw [hyz]; simp
                  have Hn := Lib.hid (show q.data.toList.take (n + 1) = bm.data.toList.take (n + 1) by rw [List.take_add_one, List.take_add_one, hyl, hzl, Htake.out, hyz])
                  clear hyl hzl hyz
                  go_wp2
                  go_quiet (fail)
                  go_wp2
                  exact ⟨⟨n + 1, by omega, by omega, rfl, Hn.out, ⟨Hbn.out.os, Hbn.out.tape, Hbn.out.output, Hbn.out.size, Hbn.out.block⟩⟩, by simp [intOf]; omega⟩
                · have hqq : ((y.toNat : Int) == (z.toNat : Int)) = false := by rw [beq_eq_false_iff_ne]; intro e; exact hyz (UInt8.toNat_inj.1 (by omega))
                  have Hs := Lib.hid (Hnext.out n (same_differ Htake.out hyl hzl hyz))
                  clear hyl hzl hyz
                  go_wp2
                  go_quiet (fail)
                  go_wp2
                  exact ⟨⟨k + 1, q.extract 0 n, by omega, rfl, rfl, Hs.out, by have := Lib.size_eq (q.extract 0 n); rw [extract_front, List.length_take] at this; omega, ⟨Hbn.out.os, Hbn.out.tape, Hbn.out.output, Hbn.out.size, Hbn.out.block⟩⟩, by simp [intOf]; omega⟩
              · have hd2 : decide (n < bm.size) = false := decide_eq_false (by omega)
                have Hs := Lib.hid (Hnext.out n (same_full Htake.out (by rw [← Lib.size_eq]; omega) (by rw [← Lib.size_eq]; omega) (Or.inr (by rw [← Lib.size_eq]; omega))))
                go_wp2
                go_quiet (fail)
                go_wp2
                exact ⟨⟨k + 1, q.extract 0 n, by omega, rfl, rfl, Hs.out, by have := Lib.size_eq (q.extract 0 n); rw [extract_front, List.length_take] at this; omega, ⟨Hbn.out.os, Hbn.out.tape, Hbn.out.output, Hbn.out.size, Hbn.out.block⟩⟩, by simp [intOf]; omega⟩
            · have hd1 : decide (n < q.size) = false := decide_eq_false (by omega)
              have Hs := Lib.hid (Hnext.out n (same_full Htake.out (by rw [← Lib.size_eq]; omega) (by rw [← Lib.size_eq]; omega) (Or.inl (by rw [← Lib.size_eq]; omega))))
              go_wp2
              go_quiet (fail)
              go_wp2
              exact ⟨⟨k + 1, q.extract 0 n, by omega, rfl, rfl, Hs.out, by have := Lib.size_eq (q.extract 0 n); rw [extract_front, List.length_take] at this; omega, ⟨Hbn.out.os, Hbn.out.tape, Hbn.out.output, Hbn.out.size, Hbn.out.block⟩⟩, by simp [intOf]; omega⟩
        · obtain rfl : k = m := by omega
          have hfin := Hq.out
          rw [← HM.out, List.take_length, HR.out] at hfin
          have Hfin := Lib.hid (show q = ⟨R.toArray⟩ by rw [← hfin])
          clear hfin
          go_wp2
          go_ret2
          exact ⟨by rw [← Hfin.out]; rfl, Hb2.out.trans (Hbx.out.mono Hb2.out.size)⟩
end Go.Proofs.YtapiofcdifligaaDoor
