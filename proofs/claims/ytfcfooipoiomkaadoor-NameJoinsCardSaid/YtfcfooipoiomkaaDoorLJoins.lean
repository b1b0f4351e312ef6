/- NameJoins: the law's walk. -/
import Derived.Test.YtfcfooipoiomkaaDoorN
namespace Go.Proofs.YtfcfooipoiomkaaDoor
open Go.RowKit

theorem free_of_name {l : List UInt8} (h : nameB NameSet l = true) : Free 47 l := by
  intro b hb e
  subst e
  have h1 : allIn NameSet l = true := by
    unfold nameB at h
    simp only [Bool.and_eq_true] at h
    exact h.2
  unfold allIn at h1
  have := List.all_eq_true.1 h1 47 hb
  revert this
  decide

theorem names_free {ss : List ByteArray} (h : names ss = true) : ∀ q ∈ lists ss, Free 47 q := by
  intro q hq
  obtain ⟨x, hx, rfl⟩ := List.mem_map.1 hq
  exact free_of_name (List.all_eq_true.1 h x hx)
theorem pieces_lists {ss : List ByteArray} (h : names ss = true) (h0 : ss ≠ []) : pieces 47 (joinP 47 (lists ss)) = lists ss := by
  cases ss with
  | nil => exact absurd rfl h0
  | cons x K => exact pieces_joinP 47 x.data.toList (lists K) (names_free h)
theorem pathOf_path {ss : List ByteArray} (h : names ss = true) (h0 : ss ≠ []) : isPathB (pathOf ss).data.toList = true := by
  rw [pathOf_list]
  show (((47 : UInt8) == 47) && (pieces 47 (joinP 47 (lists ss))).all (nameB NameSet)) = true
  rw [pieces_lists h h0]
  unfold lists
  rw [List.all_map]
  exact h
theorem pathOf_pieces {ss : List ByteArray} (h : names ss = true) (h0 : ss ≠ []) : piecesB 47 ((pathOf ss).extract 1 (pathOf ss).size) = ss := by
  unfold piecesB
  rw [Lib.extract_to_end, pathOf_list]
  show ((pieces 47 (joinP 47 (lists ss))).map fun p => (⟨p.toArray⟩ : ByteArray)) = ss
  rw [pieces_lists h h0]
  unfold lists
  rw [List.map_map]
  simp [Function.comp_def]
theorem flat_bound : ∀ ps : List (List UInt8), (∀ p ∈ ps, p.length ≤ 100) → (ps.flatMap fun q => (47 : UInt8) :: q).length ≤ 101 * ps.length
  | [], _ => by simp
  | p :: ps, h => by
    have h1 := h p (List.mem_cons_self ..)
    have h2 := flat_bound ps fun q hq => h q (List.mem_cons_of_mem _ hq)
    rw [List.flatMap_cons, List.length_append]
    simp only [List.length_cons]
    omega
theorem joined_size {ss : List ByteArray} (hn : ss.length ≤ 20) (h : ∀ x ∈ ss, x.size ≤ 100) : (joined ss).size ≤ 2020 := by
  have h1 := joinP_len (lists ss)
  have h2 := flat_bound (lists ss) fun p hp => by
    obtain ⟨x, hx, rfl⟩ := List.mem_map.1 hp
    rw [← Lib.size_eq]
    exact h x hx
  have h3 : (lists ss).length = ss.length := by simp [lists]
  have h4 : (joined ss).size = (joinP 47 (lists ss)).length := rfl
  omega
theorem pathOf_size (ss : List ByteArray) : (pathOf ss).size = (joined ss).size + 1 := by
  rw [Lib.size_eq, pathOf_list, Lib.size_eq, joined_list]
  rfl

set_option maxHeartbeats 2000000 in
set_option maxRecDepth 100000 in
theorem nameJoins_some (b o c : Nat) (ss : List ByteArray) (w : World) (m : Int) (hm : w.cell? ⟨0, 0, none⟩ = some (.int .i64 m)) (h0 : ss ≠ []) (hT : Texts w b o c ss) (hn : ss.length ≤ 20) (hx : ∀ x ∈ ss, x.size ≤ 9223372036854775807) :
    Calls Tryd.prog 5 #[.slice (some ⟨b, o, none⟩) ss.length c] w (Bel (.bool true) w) := by
  have Hk := Lib.hid known_any
  have Hm := Lib.hid hm
  have HT := Lib.hid hT
  have Hx := Lib.hid hx
  have H0 := Lib.hid h0
  have hpos : 0 < ss.length := List.length_pos_iff.2 h0
  have hposz : (0 : Int) < (ss.length : Int) := by omega
  have hnz : (ss.length : Int) ≤ 20 := by omega
  clear hm hT hx h0
  go_enter Tryd.func5, Tryd.ntmps5
  go_wp2
  go_loop [3, 4] (fun s3 s4 => ∃ i : Nat, i ≤ ss.length ∧ s4 = .int .i64 i ∧ s3 = .bool (names (ss.take i)) ∧ ∀ x ∈ ss.take i, x.size ≤ 100) (fun _ s4 => ss.length - (intOf s4).toNat)
  case atStart => exact ⟨0, by omega, rfl, rfl, by simp⟩
  case round =>
    obtain ⟨i, hi, rfl, rfl, ha⟩ := hrel
    have Ha := Lib.hid ha
    clear ha
    by_cases hlt : i < ss.length
    · have hiz : (i : Int) < (ss.length : Int) := by omega
      obtain ⟨x, hxi⟩ : ∃ x, ss[i]? = some x := ⟨_, List.getElem?_eq_getElem hlt⟩
      have hcell := HT.out.cell i x hxi
      have hxm := List.mem_of_getElem? hxi
      have hxs := Hx.out x hxm
      by_cases h100 : x.size ≤ 100
      · have h100' : (x.size : Int) ≤ 100 := by omega
        have hg : names (ss.take (i + 1)) = (names (ss.take i) && nameB NameSet x.data.toList) := by
          unfold names
          rw [List.take_add_one, hxi]
          simp only [Option.toList]
          rw [List.all_append]
          simp
        have hga : ∀ y ∈ ss.take (i + 1), y.size ≤ 100 := fun y hy => by
          rw [List.take_add_one, hxi] at hy
          rcases List.mem_append.1 hy with h | h
          · exact Ha.out y h
          · obtain rfl : y = x := by simpa [Option.toList] using h
            exact h100
        have Hv := Lib.hid fun W => refValid_any x W (by omega)
        have Hga := Lib.hid hga
        cases hok : names (ss.take i) with
        | true =>
          rw [hok, Bool.true_and] at hg
          have Hg := Lib.hid hg
          clear hg hga hxi hxm hok
          go_wp2_with fail
          refine (Hv.out _).mono ?_
          rintro e w2 ⟨rfl, rfl⟩
          go_wp2
          go_round
          case rel => exact ⟨i + 1, by omega, by go_num, by rw [Hg.out], Hga.out⟩
          case measure => simp [intOf]; omega
        | false =>
          rw [hok, Bool.false_and] at hg
          have Hg := Lib.hid hg
          clear hg hga hxi hxm hok
          go_wp2
          go_round
          case rel => exact ⟨i + 1, by omega, by go_num, by rw [Hg.out], Hga.out⟩
          case measure => simp [intOf]; omega
      · have h100' : ¬ (x.size : Int) ≤ 100 := by omega
        clear hxi hxm
        generalize names (ss.take i) = ok at *
        go_wp2_with fail
        refine (Hk.out _).mono ?_
        rintro e w2 ⟨rfl, hb2⟩
        go_wp2
        go_ret
        exact ⟨rfl, hb2⟩
    · have h : ss.take i = ss := List.take_of_length_le (by omega)
      rw [h] at Ha
      rw [h]
      have hjs := joined_size hn Ha.out
      have hps := pathOf_size ss
      have Hj := Lib.hid (nameJoin_any b o c ss w H0.out HT.out (by omega) (by omega) fun x hx => Nat.le_trans (Ha.out x hx) (by decide))
      have Hr := Lib.hid fun W hT => refJoin_any b o c ss W H0.out hT (by omega) (by omega)
      have Hs := Lib.hid fun W => split_any (pathOf ss) m W (by omega)
      cases hok : names ss with
      | false =>
        rw [hok] at Hj
        clear h hok
        go_wp2_with fail
        refine Hj.out.mono ?_
        rintro e w2 ⟨hb2, ⟨hf, _⟩ | ⟨_, rfl⟩⟩
        · cases hf
        · go_wp2_with fail
          refine (Hk.out _).mono ?_
          rintro e w3 ⟨rfl, hb3⟩
          go_wp2
          go_ret
          exact ⟨rfl, belT hb2 hb3⟩
      | true =>
        have hpp := pathOf_pieces hok H0.out
        rw [pathOf_path hok H0.out, hpp] at Hs
        rw [hok] at Hj
        generalize pathOf ss = p at *
        clear h hok hpp
        go_wp2_with fail
        refine Hj.out.mono ?_
        rintro e w2 ⟨hb2, ⟨_, rfl⟩ | ⟨hf, _⟩⟩
        · go_wp2_with fail
          refine (Hs.out _ (max_below Hm.out hb2 (Nat.le_refl _))).mono ?_
          rintro e w3 ⟨hb3, ⟨_, b1, hb1w, hb1W, hs1, rfl⟩ | ⟨hf, _⟩⟩
          · have hc3 := belT hb2 hb3
            have Hs1 := Lib.hid hs1
            clear hs1 hb2 hb3
            go_wp2_with fail
            refine (Hr.out _ (HT.out.below hc3)).mono ?_
            rintro e w4 ⟨rfl, hb4⟩
            have hc4 := belT hc3 hb4
            have Hst := Lib.hid (sameTexts_any b1 b ss.length c 0 o ss w4 (by omega) (fun j x hx => by rw [Nat.zero_add]; exact (Hs1.out.below hb4 hb1W) j x hx) (HT.out.below hc4).cell)
            clear hc3 hb4
            go_wp2_with fail
            refine Hst.out.mono ?_
            rintro e w5 ⟨rfl, n, rfl⟩
            go_wp2_with fail
            refine (Hk.out _).mono ?_
            rintro e w6 ⟨rfl, hb6⟩
            go_wp2
            go_ret
            exact ⟨rfl, belT (drewN_below hc4 n) hb6⟩
          · cases hf
        · cases hf

set_option maxRecDepth 100000 in
theorem nameJoins_none (a : Option Addr) (c : Nat) (w : World) : Calls Tryd.prog 5 #[.slice a 0 c] w (Bel (.bool true) w) := by
  have Hk := Lib.hid known_any
  have Hj := Lib.hid (nameJoin_none a c)
  go_enter Tryd.func5, Tryd.ntmps5
  go_wp2
  go_loop [3, 4] (fun s3 s4 => s3 = .bool false ∧ s4 = .int .i64 0) (fun _ _ => 0)
  case atStart => exact ⟨rfl, rfl⟩
  case round =>
    obtain ⟨rfl, rfl⟩ := hrel
    go_wp2_with fail
    refine (Hj.out _).mono ?_
    rintro e w2 ⟨rfl, rfl⟩
    go_wp2_with fail
    refine (Hk.out _).mono ?_
    rintro e w6 ⟨rfl, hb6⟩
    go_wp2
    go_ret
    exact ⟨rfl, hb6⟩

set_option maxRecDepth 100000 in
theorem nameJoins_long (a : Option Addr) (n c : Nat) (w : World) (hn : 20 < n) : Calls Tryd.prog 5 #[.slice a n c] w (Bel (.bool true) w) := by
  have Hk := Lib.hid known_any
  have hnz : ¬ (n : Int) ≤ 20 := by omega
  go_enter Tryd.func5, Tryd.ntmps5
  go_wp2_with fail
  refine (Hk.out _).mono ?_
  rintro e w6 ⟨rfl, hb6⟩
  go_wp2
  go_ret
  exact ⟨rfl, hb6⟩

/-- The law, at whatever slice. -/
theorem nameJoins_walk (a : Option Addr) (n c : Nat) (ss : List ByteArray) (w : World) (m : Int) (hm : w.cell? ⟨0, 0, none⟩ = some (.int .i64 m)) (hl : ss.length = n) (hc : n ≤ c) (hx : ∀ x ∈ ss, x.size ≤ maxLen)
    (ha : n ≠ 0 → ∃ p, a = some p ∧ ∀ (j : Nat) x, ss[j]? = some x → w.cell? (p.add j) = some (.string x)) : Calls Tryd.prog 5 #[.slice a n c] w (Bel (.bool true) w) := by
  by_cases h0 : n = 0
  · subst h0
    exact nameJoins_none a c w
  · obtain ⟨p, rfl, hp⟩ := ha h0
    by_cases h20 : 20 < n
    · exact nameJoins_long _ _ _ _ h20
    · subst hl
      obtain ⟨x, hx0⟩ : ∃ x, ss[0]? = some x := ⟨_, List.getElem?_eq_getElem (by omega)⟩
      have h1 := hp 0 x hx0
      obtain ⟨b, o, sp⟩ := p
      obtain rfl : sp = none := by
        cases sp with
        | none => rfl
        | some s =>
          exfalso
          unfold Addr.add at h1
          simp [World.cell?] at h1
          split at h1 <;> cases h1
      refine nameJoins_some b o c ss w m hm (by intro e; subst e; exact h0 rfl) ⟨fun j y hy => ?_, ?_, hc⟩ (by omega) (fun y hy => hx y hy)
      · have h2 := hp j y hy
        rw [show ((⟨b, o, none⟩ : Addr).add j) = ⟨b, o + j, none⟩ from by by_cases h : j = 0 <;> simp [Addr.add, h]] at h2
        exact h2
      · have h2 := hp 0 x hx0
        rw [show ((⟨b, o, none⟩ : Addr).add 0) = ⟨b, o, none⟩ from by simp [Addr.add]] at h2
        exact block_lt_of_cell h2
end Go.Proofs.YtfcfooipoiomkaaDoor
