/- GlobTurns: the law's walk. -/
import Derived.Test.YtapiofcdifligaaDoorLMeets
namespace Go.Proofs.YtapiofcdifligaaDoor
open Go.RowKit

theorem lexLe_antisymm : ∀ s t : List UInt8, lexLe s t → lexLe t s → s = t
  | [], [], _, _ => rfl
  | [], _ :: _, _, h => h.elim
  | _ :: _, [], h, _ => h.elim
  | c :: s, d :: t, h, k => by
    rcases h with h | ⟨rfl, h⟩
    · rcases k with k | ⟨rfl, _⟩
      · omega
      · omega
    · rcases k with k | ⟨_, k⟩
      · omega
      · rw [lexLe_antisymm s t h k]
theorem leB_antisymm {s t : List UInt8} (h : leB s t) (k : leB t s) : s = t := by
  rcases h with h | ⟨h, h'⟩
  · rcases k with k | ⟨k, _⟩ <;> omega
  · rcases k with k | ⟨_, k'⟩
    · omega
    · exact lexLe_antisymm s t h' k'

/-- The least common text is of the texts that both match, and of nothing else. -/
theorem commonB_ext {x y u v : List (List El)} (hx : Good x) (hy : Good y) (hu : Good u) (hv : Good v)
    (h : ∀ s, ((x.any fun a => mB a s) = true ∧ (y.any fun a => mB a s) = true) ↔ ((u.any fun a => mB a s) = true ∧ (v.any fun a => mB a s) = true)) : commonB x y = commonB u v := by
  have h1 := commonB_spec hx hy
  have h2 := commonB_spec hu hv
  cases hc : commonB x y with
  | none =>
    cases hd : commonB u v with
    | none => rfl
    | some t =>
      rw [hc] at h1
      rw [hd] at h2
      obtain ⟨a, b, c, _⟩ := h2
      obtain ⟨b', c'⟩ := (h t).2 ⟨b, c⟩
      exact (h1 t a b' c').elim
  | some t =>
    rw [hc] at h1
    obtain ⟨a, b, c, d⟩ := h1
    cases hd : commonB u v with
    | none =>
      rw [hd] at h2
      obtain ⟨b', c'⟩ := (h t).1 ⟨b, c⟩
      exact (h2 t a b' c').elim
    | some r =>
      rw [hd] at h2
      obtain ⟨a', b', c', d'⟩ := h2
      obtain ⟨e1, e2⟩ := (h t).1 ⟨b, c⟩
      obtain ⟨e3, e4⟩ := (h r).2 ⟨b', c'⟩
      rw [leB_antisymm (d r e3 e4) (d' t e1 e2)]

def starL : List (List El) := [[⟨true, false, isText⟩]]
theorem alts_star : altsP [42] = some starL := by rfl
theorem starL_all (s : List UInt8) (h : s.all isText = true) : (starL.any fun a => mB a s) = true := by
  unfold starL
  simp only [List.any_cons, List.any_nil, Bool.or_false]
  exact (mB_star _ [] s rfl).2 ⟨s.length, Nat.le_refl _, by rw [List.take_length]; exact h, by simp [mB]⟩
theorem common_star {x : List (List El)} (hx : Good x) : commonB x starL = commonB x x := by
  refine commonB_ext hx (altsP_Good alts_star) hx hx fun s => ⟨fun h => ⟨h.1, h.1⟩, fun h => ⟨h.1, ?_⟩⟩
  obtain ⟨a, ha, hm⟩ := List.any_eq_true.1 h.1
  exact starL_all s (mB_text (fun e he => ((hx a ha).2 e he).1) s hm)
theorem common_swap {x y : List (List El)} (hx : Good x) (hy : Good y) : commonB y x = commonB x y :=
  commonB_ext hy hx hx hy fun _ => And.comm

set_option maxHeartbeats 1000000 in
set_option maxRecDepth 100000 in
theorem turns_gen (p q s u v : ByteArray) (k1 k b1 b3 z : Bool) (E1 E2 E3 : Int) (w : World) (hT : TabAt w) (hp : (p.size : Int) ≤ 16) (hq : (q.size : Int) ≤ 16) (hs : (s.size : Int) ≤ 40)
    (h1 : (E1 == 0) = z) (h2 : (E2 == 0) = z) (hfin : b1 = true → k = true ∧ b3 = false)
    (hc1 : ∀ W, TabAt W → Calls Tryd.prog 21 #[.string p, .string q] W (Bel (.tuple #[.string u, .bool k1, .int .i64 E1]) W))
    (hc2 : ∀ W, TabAt W → Calls Tryd.prog 21 #[.string q, .string p] W (Bel (.tuple #[.string u, .bool k1, .int .i64 E2]) W))
    (hc3 : ∀ W, TabAt W → Calls Tryd.prog 21 #[.string p, .string p] W (Bel (.tuple #[.string v, .bool k, .int .i64 E3]) W))
    (hc4 : ∀ W, TabAt W → Calls Tryd.prog 21 #[.string p, .string ⟨#[42]⟩] W (Bel (.tuple #[.string v, .bool k, .int .i64 E3]) W))
    (hm : ∀ W, Calls Tryd.prog 15 #[.string p, .string s] W (Bel (.bool b1) W))
    (hl : ∀ W, Calls Tryd.prog 23 #[.string s, .string v] W (Bel (.bool b3) W)) :
    Calls Tryd.prog 8 #[.string p, .string q, .string s] w (Bel (.bool true) w) := by
  have Hk := Lib.hid known_any
  have HT := Lib.hid hT
  have Hb := Lib.hid (Below.refl w.heap.size w)
  clear hT
  have Hc1 := Lib.hid hc1
  have Hc2 := Lib.hid hc2
  have Hc3 := Lib.hid hc3
  have Hc4 := Lib.hid hc4
  have Hm := Lib.hid hm
  have Hl := Lib.hid hl
  clear hc1 hc2 hc3 hc4 hm hl
  have f1 : (u.toList == u.toList) = true := by simp
  have f2 : (v.toList == v.toList) = true := by simp
  have f3 : (k1 != k1) = false := by cases k1 <;> rfl
  have f4 : (k != k) = false := by cases k <;> rfl
  have f5 : (z != z) = false := by cases z <;> rfl
  have f6 : (E3 != E3) = false := by simp
  have f7 : (k1 == k1) = true := by cases k1 <;> rfl
  have f8 : (k == k) = true := by cases k <;> rfl
  have f9 : (z == z) = true := by cases z <;> rfl
  have f10 : (E3 == E3) = true := by simp
  cases b1 with
  | true =>
    obtain ⟨rfl, rfl⟩ := hfin rfl
    clear hfin
    go_enter Tryd.func8, Tryd.ntmps8
    go_wp2_with fail
    refine (Hk.out _ (HT.out.below Hb.out)).mono ?_
    rintro e W1 ⟨rfl, hb⟩
    replace Hb := Lib.hid (Hb.out.trans (hb.mono Hb.out.size))
    clear hb
    go_wp2_with fail
    refine (Hc1.out _ (HT.out.below Hb.out)).mono ?_
    rintro e W1 ⟨rfl, hb⟩
    replace Hb := Lib.hid (Hb.out.trans (hb.mono Hb.out.size))
    clear hb
    go_wp2_with fail
    refine (Hc2.out _ (HT.out.below Hb.out)).mono ?_
    rintro e W1 ⟨rfl, hb⟩
    replace Hb := Lib.hid (Hb.out.trans (hb.mono Hb.out.size))
    clear hb
    go_wp2_with fail
    refine (Hc3.out _ (HT.out.below Hb.out)).mono ?_
    rintro e W1 ⟨rfl, hb⟩
    replace Hb := Lib.hid (Hb.out.trans (hb.mono Hb.out.size))
    clear hb
    go_wp2_with fail
    refine (Hc4.out _ (HT.out.below Hb.out)).mono ?_
    rintro e W1 ⟨rfl, hb⟩
    replace Hb := Lib.hid (Hb.out.trans (hb.mono Hb.out.size))
    clear hb
    go_wp2_with fail
    refine (Hm.out _).mono ?_
    rintro e W1 ⟨rfl, hb⟩
    replace Hb := Lib.hid (Hb.out.trans (hb.mono Hb.out.size))
    clear hb
    go_wp2_with fail
    refine (Hl.out _).mono ?_
    rintro e W1 ⟨rfl, hb⟩
    replace Hb := Lib.hid (Hb.out.trans (hb.mono Hb.out.size))
    clear hb
    go_wp2
    go_ret
    exact ⟨rfl, Hb.out⟩
  | false =>
    clear hfin
    go_enter Tryd.func8, Tryd.ntmps8
    go_wp2_with fail
    refine (Hk.out _ (HT.out.below Hb.out)).mono ?_
    rintro e W1 ⟨rfl, hb⟩
    replace Hb := Lib.hid (Hb.out.trans (hb.mono Hb.out.size))
    clear hb
    go_wp2_with fail
    refine (Hc1.out _ (HT.out.below Hb.out)).mono ?_
    rintro e W1 ⟨rfl, hb⟩
    replace Hb := Lib.hid (Hb.out.trans (hb.mono Hb.out.size))
    clear hb
    go_wp2_with fail
    refine (Hc2.out _ (HT.out.below Hb.out)).mono ?_
    rintro e W1 ⟨rfl, hb⟩
    replace Hb := Lib.hid (Hb.out.trans (hb.mono Hb.out.size))
    clear hb
    go_wp2_with fail
    refine (Hc3.out _ (HT.out.below Hb.out)).mono ?_
    rintro e W1 ⟨rfl, hb⟩
    replace Hb := Lib.hid (Hb.out.trans (hb.mono Hb.out.size))
    clear hb
    go_wp2_with fail
    refine (Hc4.out _ (HT.out.below Hb.out)).mono ?_
    rintro e W1 ⟨rfl, hb⟩
    replace Hb := Lib.hid (Hb.out.trans (hb.mono Hb.out.size))
    clear hb
    go_wp2_with fail
    refine (Hm.out _).mono ?_
    rintro e W1 ⟨rfl, hb⟩
    replace Hb := Lib.hid (Hb.out.trans (hb.mono Hb.out.size))
    clear hb
    go_wp2
    go_ret
    exact ⟨rfl, Hb.out⟩

theorem turns_own (p s : ByteArray) {x : List (List El)} (hx : altsP p.data.toList = some x) (hp : (p.size : Int) ≤ 16) (hs : (s.size : Int) ≤ 40) : ∃ (v : ByteArray) (k b3 : Bool), (patB p.data.toList s.data.toList = true → k = true ∧ b3 = false) ∧
    (∀ W, TabAt W → Calls Tryd.prog 21 #[.string p, .string p] W (Bel (.tuple #[.string v, .bool k, .int .i64 0]) W)) ∧
    (∀ W, TabAt W → Calls Tryd.prog 21 #[.string p, .string ⟨#[42]⟩] W (Bel (.tuple #[.string v, .bool k, .int .i64 0]) W)) ∧
    (∀ W, Calls Tryd.prog 23 #[.string s, .string v] W (Bel (.bool b3) W)) := by
  have h3 := fun W (h : TabAt W) => common_any p p W (by omega) (by omega) h
  have h4 := fun W (h : TabAt W) => common_any p ⟨#[42]⟩ W (by omega) (by decide) h
  have hg := altsP_Good hx
  have hs1 : (⟨#[42]⟩ : ByteArray).data.toList = [42] := rfl
  rw [hs1] at h4
  unfold comRes at h3 h4
  rw [hx] at h3 h4
  rw [alts_star] at h4
  simp only at h3 h4
  rw [common_star hg] at h4
  have hsp := commonB_spec hg hg
  cases hc : commonB x x with
  | none =>
    rw [hc] at h3 h4 hsp
    refine ⟨⟨#[]⟩, false, lessB s.data.toList [], fun h => ?_, h3, h4, fun W => less_any s ⟨#[]⟩ W⟩
    unfold patB at h
    rw [hx] at h
    exact (hsp s.data.toList (by rw [← Lib.size_eq]; unfold never; omega) h h).elim
  | some t =>
    rw [hc] at h3 h4 hsp
    refine ⟨⟨t.toArray⟩, true, lessB s.data.toList t, fun h => ⟨rfl, ?_⟩, h3, h4, fun W => less_any s ⟨t.toArray⟩ W⟩
    unfold patB at h
    rw [hx] at h
    exact (leB_iff _ _).2 (hsp.2.2.2 s.data.toList h h)

theorem turns_pair (p q : ByteArray) (hp : (p.size : Int) ≤ 16) (hq : (q.size : Int) ≤ 16) : ∃ (u : ByteArray) (k1 z : Bool) (E1 E2 : Int), (E1 == 0) = z ∧ (E2 == 0) = z ∧
    (∀ W, TabAt W → Calls Tryd.prog 21 #[.string p, .string q] W (Bel (.tuple #[.string u, .bool k1, .int .i64 E1]) W)) ∧
    (∀ W, TabAt W → Calls Tryd.prog 21 #[.string q, .string p] W (Bel (.tuple #[.string u, .bool k1, .int .i64 E2]) W)) := by
  have h1 := fun W (h : TabAt W) => common_any p q W (by omega) (by omega) h
  have h2 := fun W (h : TabAt W) => common_any q p W (by omega) (by omega) h
  unfold comRes at h1 h2
  have hz : ∀ {r : List UInt8}, altsP r = none → (errP r == 0) = false := fun h => by
    rcases errP_none h with h' | h' <;> rw [h'] <;> rfl
  cases hx : altsP p.data.toList with
  | none =>
    rw [hx] at h1 h2
    cases hy : altsP q.data.toList with
    | none => rw [hy] at h2; exact ⟨_, _, false, _, _, hz hx, hz hy, h1, h2⟩
    | some y => rw [hy] at h2; exact ⟨_, _, false, _, _, hz hx, hz hx, h1, h2⟩
  | some x =>
    rw [hx] at h1 h2
    cases hy : altsP q.data.toList with
    | none => rw [hy] at h1 h2; exact ⟨_, _, false, _, _, hz hy, hz hy, h1, h2⟩
    | some y =>
      rw [hy] at h1 h2
      simp only at h1 h2
      rw [common_swap (altsP_Good hx) (altsP_Good hy)] at h2
      exact ⟨_, _, true, _, _, rfl, rfl, h1, h2⟩

set_option maxHeartbeats 1000000 in
set_option maxRecDepth 100000 in
theorem globTurns_walk (p q s : ByteArray) (w : World) (hT : TabAt w) : Calls Tryd.prog 8 #[.string p, .string q, .string s] w (Bel (.bool true) w) := by
  by_cases h1 : (p.size : Int) ≤ 16
  · by_cases h2 : (q.size : Int) ≤ 16
    · by_cases h3 : (s.size : Int) ≤ 40
      · obtain ⟨u, k1, z, E1, E2, e1, e2, c1, c2⟩ := turns_pair p q h1 h2
        have hm := fun W => match_any p s W (by omega) (by omega)
        cases hx : altsP p.data.toList with
        | none =>
          have hv : patB p.data.toList s.data.toList = false := by unfold patB; rw [hx]
          rw [hv] at hm
          have c3 := fun W (h : TabAt W) => common_any p p W (by omega) (by omega) h
          have c4 := fun W (h : TabAt W) => common_any p ⟨#[42]⟩ W (by omega) (by decide) h
          unfold comRes at c3 c4
          rw [hx] at c3 c4
          exact turns_gen p q s u ⟨#[]⟩ k1 false false _ z E1 E2 _ w hT h1 h2 h3 e1 e2 (fun h => by cases h) c1 c2 c3 c4 hm (fun W => less_any s ⟨#[]⟩ W)
        | some x =>
          obtain ⟨v, k, b3, hf, c3, c4, hl⟩ := turns_own p s hx h1 h3
          exact turns_gen p q s u v k1 k _ b3 z E1 E2 0 w hT h1 h2 h3 e1 e2 hf c1 c2 c3 c4 hm hl
      · have Hk := Lib.hid known_any
        have HT := Lib.hid hT
        have Hb := Lib.hid (Below.refl w.heap.size w)
        clear hT
        go_enter Tryd.func8, Tryd.ntmps8
        go_wp2_with fail
        refine (Hk.out _ (HT.out.below Hb.out)).mono ?_
        rintro e W1 ⟨rfl, hb⟩
        replace Hb := Lib.hid (Hb.out.trans (hb.mono Hb.out.size))
        clear hb
        go_wp2
        go_ret
        exact ⟨rfl, Hb.out⟩
    · have Hk := Lib.hid known_any
      have HT := Lib.hid hT
      have Hb := Lib.hid (Below.refl w.heap.size w)
      clear hT
      go_enter Tryd.func8, Tryd.ntmps8
      go_wp2_with fail
      refine (Hk.out _ (HT.out.below Hb.out)).mono ?_
      rintro e W1 ⟨rfl, hb⟩
      replace Hb := Lib.hid (Hb.out.trans (hb.mono Hb.out.size))
      clear hb
      go_wp2
      go_ret
      exact ⟨rfl, Hb.out⟩
  · have Hk := Lib.hid known_any
    have HT := Lib.hid hT
    have Hb := Lib.hid (Below.refl w.heap.size w)
    clear hT
    go_enter Tryd.func8, Tryd.ntmps8
    go_wp2_with fail
    refine (Hk.out _ (HT.out.below Hb.out)).mono ?_
    rintro e W1 ⟨rfl, hb⟩
    replace Hb := Lib.hid (Hb.out.trans (hb.mono Hb.out.size))
    clear hb
    go_wp2
    go_ret
    exact ⟨rfl, Hb.out⟩
end Go.Proofs.YtapiofcdifligaaDoor
