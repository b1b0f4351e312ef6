/- Literal, GlobBegins: the law's walk. -/
import Derived.Test.YtapiofcdifligaaDoorLChoices
namespace Go.Proofs.YtapiofcdifligaaDoor
open Go.RowKit

/-- The only text of a pattern without wildcards. -/
def litL (L : List (List El)) : Option (List UInt8) := match L with
  | [a] => if (begB a).length < a.length then none else some (begB a)
  | _ => none
def litB (p : List UInt8) : Option (List UInt8) := (altsP p).bind litL
def litRes (p : List UInt8) : Value := .tuple #[strOf (litB p), .bool (litB p).isSome]

set_option maxHeartbeats 400000 in
set_option maxRecDepth 100000 in
theorem literal_any (p : ByteArray) (w : World) (hp : p.size ≤ 4611686018427387904) (hT : TabAt w) : Calls Tryd.prog 17 #[.string p] w (Bel (litRes p.data.toList) w) := by
  unfold litRes litB
  cases h : altsP p.data.toList with
  | none =>
    have hc := comp_none h hp
    have hne : (errP p.data.toList == 0) = false := by
      rcases errP_none h with h1 | h1 <;> rw [h1] <;> rfl
    have hne2 : (errP p.data.toList != 0) = true := by
      rcases errP_none h with h1 | h1 <;> rw [h1] <;> rfl
    generalize errP p.data.toList = E at *
    have Hc := Lib.hid hc
    clear hc h
    go_enter Tryd.func17, Tryd.ntmps17
    go_wp2_with fail
    refine (Hc.out _).mono ?_
    rintro e W1 ⟨rfl, hb⟩
    go_wp2
    go_ret2
    exact ⟨rfl, hb⟩
  | some L =>
    have hc := comp_some h hp
    obtain ⟨hne, hlen, hgood⟩ := altsP_good h
    have Hc := Lib.hid hc
    clear hc h
    rw [Option.bind_some]
    match L, hne, hlen, hgood, Hc with
    | [], hne, _, _, _ => exact absurd rfl hne
    | a :: b :: r, _, hlen, _, Hc =>
      have hv : litL (a :: b :: r) = none := rfl
      rw [hv]
      have h1 : (((a :: b :: r).length : Nat) : Int) ≠ 1 := by simp; omega
      have hl2 : (((a :: b :: r).length : Nat) : Int) ≤ 257 := by omega
      obtain ⟨N, hN⟩ : ∃ N, (a :: b :: r).length = N := ⟨_, rfl⟩
      have h2 : ((N : Int) != 1) = true := by rw [← hN]; exact bne_iff_ne.2 h1
      rw [hN] at hl2
      have HN := Lib.hid hN
      clear h1 hN hv hlen
      go_enter Tryd.func17, Tryd.ntmps17
      go_wp2_with fail
      refine (Hc.out _).mono ?_
      rintro e W1 ⟨hb, v, rfl, hv⟩
      obtain ⟨G, cap, rfl, hG, hcap, hrows⟩ := hv
      rw [HN.out]
      clear hrows
      go_wp2
      go_ret2
      exact ⟨rfl, hb⟩
    | [a], _, _, hgood, Hc =>
      have hal := (hgood a List.mem_cons_self).1
      have hbl : (begB a).length ≤ a.length := begB_len a
      obtain ⟨bt, hbt⟩ : ∃ u : ByteArray, (⟨(begB a).toArray⟩ : ByteArray) = u := ⟨_, rfl⟩
      have hbs : bt.size = (begB a).length := by rw [← hbt, Lib.size_eq]
      have hT' := Lib.hid hT
      have hl1 : ([a] : List (List El)).length = 1 := rfl
      go_enter Tryd.func17, Tryd.ntmps17
      go_wp2_with fail
      refine (Hc.out _).mono ?_
      rintro e W1 ⟨hb, v, rfl, hv⟩
      obtain ⟨G, cap, rfl, hG, hcap, hrows⟩ := hv
      obtain ⟨aj, cj, gj, hc0, h1, h2, h3⟩ := hrows 0 a rfl
      have Hbeg := Lib.hid (beginning_any aj cj gj a W1 h1 h3 (by omega) (hT'.out.below hb) h2)
      rw [hbt] at Hbeg
      rw [hl1]
      rw [hl1] at hcap
      obtain ⟨n, hn⟩ : ∃ n, a.length = n := ⟨_, rfl⟩
      rw [hn] at hc0 hal hbl Hbeg
      have HV := Lib.hid (show litL [a] = if (begB a).length < a.length then none else some (begB a) from rfl)
      rw [hn] at HV
      clear hrows h1 h2 h3 hn Hc hgood hl1
      go_wp2_with fail
      refine Hbeg.out.mono ?_
      rintro e W2 ⟨rfl, hb2⟩
      have hc2 := (hb2.cell (p := ⟨G, 0, none⟩) hG).trans hc0
      have Hbw := Lib.hid (hb.trans (hb2.mono hb.size))
      clear hb hb2 hc0 Hbeg hT
      by_cases hlt : (bt.size : Int) < (n : Int)
      · have hv : litL [a] = none := by rw [HV.out, if_pos (by omega)]
        have Hv := Lib.hid hv
        clear hv HV
        go_wp2
        go_ret2
        exact ⟨by rw [Hv.out]; rfl, Hbw.out⟩
      · have hv : litL [a] = some (begB a) := by rw [HV.out, if_neg (by omega)]
        have Hv := Lib.hid hv
        have Hbt := Lib.hid hbt
        clear hv HV hbt
        go_wp2
        go_ret2
        exact ⟨by rw [Hv.out, ← Hbt.out]; rfl, Hbw.out⟩

theorem take_same : ∀ s t : List UInt8, s.take (sameB s t) <+: t
  | [], t => by simp [sameB]
  | _ :: _, [] => by simp [sameB]
  | a :: s, b :: t => by
    unfold sameB
    split
    · rename_i h
      subst h
      rw [List.take_succ_cons]
      exact List.cons_prefix_cons.2 ⟨rfl, take_same s t⟩
    · simp
theorem fold_prefix : ∀ (r : List (List El)) (m : List UInt8), (r.foldl (fun s x => s.take (sameB s (begB x))) m) <+: m ∧ ∀ x ∈ r, (r.foldl (fun s x => s.take (sameB s (begB x))) m) <+: begB x
  | [], m => ⟨List.prefix_refl m, fun x hx => by simp at hx⟩
  | y :: r, m => by
    obtain ⟨h1, h2⟩ := fold_prefix r (m.take (sameB m (begB y)))
    rw [List.foldl_cons]
    refine ⟨h1.trans (List.take_prefix _ _), fun x hx => ?_⟩
    rcases List.mem_cons.1 hx with rfl | hx
    · exact h1.trans (take_same _ _)
    · exact h2 x hx
theorem pref_prefix {L : List (List El)} {a : List El} (ha : a ∈ L) : prefB L <+: begB a := by
  cases L with
  | nil => simp at ha
  | cons y r =>
    obtain ⟨h1, h2⟩ := fold_prefix r (begB y)
    rcases List.mem_cons.1 ha with rfl | ha
    · exact h1
    · exact h2 a ha
theorem self_byte {e : El} (h : ElGood e) (hs : e.self = true) : ∃ b, e.star = false ∧ (∀ c, e.set c = true ↔ c = b) ∧ (leastS e.set).getD 0 = b := by
  obtain ⟨b, _, h1, h2⟩ := h.2 hs
  have hb : ∀ c, e.set c = true ↔ c = b := fun c => by rw [h2]; simp
  obtain ⟨c, hc, hc2, _⟩ := leastS_of ((hb b).2 rfl)
  exact ⟨b, h1, hb, by rw [hc]; exact (hb c).1 hc2⟩
theorem beg_prefix : ∀ (a : List El), (∀ e ∈ a, ElGood e) → ∀ s, mB a s = true → begB a <+: s
  | [], _, s, _ => by simp [begB]
  | e :: r, h, s, hm => by
    unfold begB
    cases hs : e.self with
    | false => simp
    | true =>
      obtain ⟨b, h1, h2, h3⟩ := self_byte (h e List.mem_cons_self) hs
      obtain ⟨c, t, rfl, hc, ht⟩ := (mB_one e r s h1).1 hm
      rw [h3, (h2 c).1 hc]
      simp only [if_true]
      exact List.cons_prefix_cons.2 ⟨rfl, beg_prefix r (fun f hf => h f (List.mem_cons_of_mem _ hf)) t ht⟩
theorem lit_match : ∀ (a : List El), (∀ e ∈ a, ElGood e) → a.length ≤ (begB a).length → ∀ s, mB a s = true ↔ s = begB a
  | [], _, _, s => by simp [mB, begB]
  | e :: r, h, hl, s => by
    cases hs : e.self with
    | false => simp [begB, hs] at hl
    | true =>
      obtain ⟨b, h1, h2, h3⟩ := self_byte (h e List.mem_cons_self) hs
      have hbe : begB (e :: r) = b :: begB r := by rw [begB, hs, h3]; rfl
      rw [hbe] at hl ⊢
      have ih := lit_match r (fun f hf => h f (List.mem_cons_of_mem _ hf)) (by simpa using hl)
      rw [mB_one e r s h1]
      constructor
      · rintro ⟨c, t, rfl, hc, ht⟩
        rw [(h2 c).1 hc, (ih t).1 ht]
      · rintro rfl
        exact ⟨b, begB r, rfl, (h2 b).2 rfl, (ih _).2 rfl⟩

theorem begins_prefix {p s : List UInt8} {L : List (List El)} (hx : altsP p = some L) (h : patB p s = true) : Lib.hasPrefix s (prefB L) = true := by
  unfold patB at h
  rw [hx] at h
  obtain ⟨a, ha, hm⟩ := List.any_eq_true.1 h
  unfold Lib.hasPrefix
  exact List.isPrefixOf_iff_prefix.2 ((pref_prefix ha).trans (beg_prefix a (altsP_Good hx a ha).2 s hm))
theorem lit_parts {p l : List UInt8} (h : litB p = some l) : ∃ a, altsP p = some [a] ∧ l = begB a ∧ a.length ≤ (begB a).length := by
  unfold litB at h
  obtain ⟨L, hL, h⟩ := Option.bind_eq_some_iff.1 h
  unfold litL at h
  split at h
  · rename_i a
    split at h
    · simp at h
    · cases h
      exact ⟨a, hL, rfl, by omega⟩
  · simp at h
theorem begins_lit {p l : List UInt8} {L : List (List El)} (hx : altsP p = some L) (h : litB p = some l) (s : List UInt8) : prefB L = l ∧ patB p s = (s == l) := by
  obtain ⟨a, ha, rfl, hl⟩ := lit_parts h
  rw [hx] at ha
  cases ha
  refine ⟨rfl, ?_⟩
  unfold patB
  rw [hx]
  simp only [List.any_cons, List.any_nil, Bool.or_false]
  rw [Bool.eq_iff_iff, lit_match a (altsP_Good hx a List.mem_cons_self).2 hl s]
  simp

set_option maxHeartbeats 1000000 in
set_option maxRecDepth 100000 in
theorem globBegins_walk (p s : ByteArray) (w : World) (hT : TabAt w) : Calls Tryd.prog 9 #[.string p, .string s] w (Bel (.bool true) w) := by
  have Hk := Lib.hid known_any
  have HT := Lib.hid hT
  have Hb := Lib.hid (Below.refl w.heap.size w)
  clear hT
  by_cases h1 : (p.size : Int) ≤ 200
  · by_cases h2 : (s.size : Int) ≤ 200
    · have hpre := fun W (h : TabAt W) => prefix_any p W (by omega) h
      have hlit := fun W (h : TabAt W) => literal_any p W (by omega) h
      have hm := fun W => match_any p s W (by omega) (by omega)
      unfold litRes at hlit
      cases hx : altsP p.data.toList with
      | none =>
        have hv : patB p.data.toList s.data.toList = false := by unfold patB; rw [hx]
        have hl : litB p.data.toList = none := by unfold litB; rw [hx]; rfl
        have hs0 : strOf none = .string ⟨#[]⟩ := rfl
        rw [hl, hs0, Option.isSome_none] at hlit
        rw [hx] at hpre
        simp only [Option.elim_none] at hpre
        rw [hv] at hm
        generalize errP p.data.toList = E at *
        have Hpre := Lib.hid hpre
        have Hlit := Lib.hid hlit
        have Hm := Lib.hid hm
        clear hpre hlit hm hv hl hs0 hx
        go_enter Tryd.func9, Tryd.ntmps9
        go_wp2_with fail
        refine (Hk.out _ (HT.out.below Hb.out)).mono ?_
        rintro e W1 ⟨rfl, hb⟩
        replace Hb := Lib.hid (Hb.out.trans (hb.mono Hb.out.size))
        clear hb
        go_wp2_with fail
        refine (Hpre.out _ (HT.out.below Hb.out)).mono ?_
        rintro e W1 ⟨rfl, hb⟩
        replace Hb := Lib.hid (Hb.out.trans (hb.mono Hb.out.size))
        clear hb
        go_wp2_with fail
        refine (Hlit.out _ (HT.out.below Hb.out)).mono ?_
        rintro e W1 ⟨rfl, hb⟩
        replace Hb := Lib.hid (Hb.out.trans (hb.mono Hb.out.size))
        clear hb
        go_wp2_with fail
        refine (Hm.out _).mono ?_
        rintro e W1 ⟨rfl, hb⟩
        replace Hb := Lib.hid (Hb.out.trans (hb.mono Hb.out.size))
        clear hb
        go_wp2
        go_ret
        exact ⟨rfl, Hb.out⟩
      | some L =>
        have hpf := fun h => begins_prefix (s := s.data.toList) hx h
        rw [hx, errP_some hx] at hpre
        simp only [Option.elim_some] at hpre
        cases hl : litB p.data.toList with
        | none =>
          have hs0 : strOf none = .string ⟨#[]⟩ := rfl
          rw [hl, hs0, Option.isSome_none] at hlit
          obtain ⟨bb, hbb⟩ : ∃ u : ByteArray, (⟨(prefB L).toArray⟩ : ByteArray) = u := ⟨_, rfl⟩
          have hhp := fun W => Tryd.strings_HasPrefix s bb W
          rw [show bb.data.toList = prefB L from by rw [← hbb]] at hhp
          rw [hbb] at hpre
          generalize patB p.data.toList s.data.toList = b1 at *
          have Hpre := Lib.hid hpre
          have Hlit := Lib.hid hlit
          have Hm := Lib.hid hm
          clear hpre hlit hm hs0 hx hl hbb
          cases b1 with
          | false =>
            clear hpf hhp
            go_enter Tryd.func9, Tryd.ntmps9
            go_wp2_with fail
            refine (Hk.out _ (HT.out.below Hb.out)).mono ?_
            rintro e W1 ⟨rfl, hb⟩
            replace Hb := Lib.hid (Hb.out.trans (hb.mono Hb.out.size))
            clear hb
            go_wp2_with fail
            refine (Hpre.out _ (HT.out.below Hb.out)).mono ?_
            rintro e W1 ⟨rfl, hb⟩
            replace Hb := Lib.hid (Hb.out.trans (hb.mono Hb.out.size))
            clear hb
            go_wp2_with fail
            refine (Hlit.out _ (HT.out.below Hb.out)).mono ?_
            rintro e W1 ⟨rfl, hb⟩
            replace Hb := Lib.hid (Hb.out.trans (hb.mono Hb.out.size))
            clear hb
            go_wp2_with fail
            refine (Hm.out _).mono ?_
            rintro e W1 ⟨rfl, hb⟩
            replace Hb := Lib.hid (Hb.out.trans (hb.mono Hb.out.size))
            clear hb
            go_wp2
            go_ret
            exact ⟨rfl, Hb.out⟩
          | true =>
            rw [hpf rfl] at hhp
            have Hhp := Lib.hid hhp
            clear hpf hhp
            go_enter Tryd.func9, Tryd.ntmps9
            go_wp2_with fail
            refine (Hk.out _ (HT.out.below Hb.out)).mono ?_
            rintro e W1 ⟨rfl, hb⟩
            replace Hb := Lib.hid (Hb.out.trans (hb.mono Hb.out.size))
            clear hb
            go_wp2_with fail
            refine (Hpre.out _ (HT.out.below Hb.out)).mono ?_
            rintro e W1 ⟨rfl, hb⟩
            replace Hb := Lib.hid (Hb.out.trans (hb.mono Hb.out.size))
            clear hb
            go_wp2_with fail
            refine (Hlit.out _ (HT.out.below Hb.out)).mono ?_
            rintro e W1 ⟨rfl, hb⟩
            replace Hb := Lib.hid (Hb.out.trans (hb.mono Hb.out.size))
            clear hb
            go_wp2_with fail
            refine (Hm.out _).mono ?_
            rintro e W1 ⟨rfl, hb⟩
            replace Hb := Lib.hid (Hb.out.trans (hb.mono Hb.out.size))
            clear hb
            go_wp2_with fail
            refine (Hhp.out _).mono ?_
            rintro e W0 ⟨rfl, rfl⟩
            go_wp2
            go_ret
            exact ⟨rfl, Hb.out⟩
        | some l =>
          obtain ⟨hpl, hml⟩ := begins_lit hx hl s.data.toList
          have hs1 : strOf (some l) = .string ⟨l.toArray⟩ := rfl
          rw [hl, hs1, Option.isSome_some] at hlit
          obtain ⟨bb, hbb⟩ : ∃ u : ByteArray, (⟨l.toArray⟩ : ByteArray) = u := ⟨_, rfl⟩
          have hbd : bb.data.toList = l := by rw [← hbb]
          have hhp := fun W => Tryd.strings_HasPrefix s bb W
          rw [hpl] at hpre hpf
          rw [hbd] at hhp
          rw [hbb] at hpre hlit
          have heq : (s.toList == bb.toList) = patB p.data.toList s.data.toList := by rw [hml, Lib.toList_data, Lib.toList_data, hbd]
          generalize patB p.data.toList s.data.toList = b1 at *
          have Hpre := Lib.hid hpre
          have Hlit := Lib.hid hlit
          have Hm := Lib.hid hm
          clear hpre hlit hm hs1 hx hl hbb hbd hml hpl
          cases b1 with
          | false =>
            clear hpf hhp
            go_enter Tryd.func9, Tryd.ntmps9
            go_wp2_with fail
            refine (Hk.out _ (HT.out.below Hb.out)).mono ?_
            rintro e W1 ⟨rfl, hb⟩
            replace Hb := Lib.hid (Hb.out.trans (hb.mono Hb.out.size))
            clear hb
            go_wp2_with fail
            refine (Hpre.out _ (HT.out.below Hb.out)).mono ?_
            rintro e W1 ⟨rfl, hb⟩
            replace Hb := Lib.hid (Hb.out.trans (hb.mono Hb.out.size))
            clear hb
            go_wp2_with fail
            refine (Hlit.out _ (HT.out.below Hb.out)).mono ?_
            rintro e W1 ⟨rfl, hb⟩
            replace Hb := Lib.hid (Hb.out.trans (hb.mono Hb.out.size))
            clear hb
            go_wp2_with fail
            refine (Hm.out _).mono ?_
            rintro e W1 ⟨rfl, hb⟩
            replace Hb := Lib.hid (Hb.out.trans (hb.mono Hb.out.size))
            clear hb
            go_wp2
            go_ret
            exact ⟨rfl, Hb.out⟩
          | true =>
            rw [hpf rfl] at hhp
            have Hhp := Lib.hid hhp
            clear hpf hhp
            go_enter Tryd.func9, Tryd.ntmps9
            go_wp2_with fail
            refine (Hk.out _ (HT.out.below Hb.out)).mono ?_
            rintro e W1 ⟨rfl, hb⟩
            replace Hb := Lib.hid (Hb.out.trans (hb.mono Hb.out.size))
            clear hb
            go_wp2_with fail
            refine (Hpre.out _ (HT.out.below Hb.out)).mono ?_
            rintro e W1 ⟨rfl, hb⟩
            replace Hb := Lib.hid (Hb.out.trans (hb.mono Hb.out.size))
            clear hb
            go_wp2_with fail
            refine (Hlit.out _ (HT.out.below Hb.out)).mono ?_
            rintro e W1 ⟨rfl, hb⟩
            replace Hb := Lib.hid (Hb.out.trans (hb.mono Hb.out.size))
            clear hb
            go_wp2_with fail
            refine (Hm.out _).mono ?_
            rintro e W1 ⟨rfl, hb⟩
            replace Hb := Lib.hid (Hb.out.trans (hb.mono Hb.out.size))
            clear hb
            go_wp2_with fail
            refine (Hhp.out _).mono ?_
            rintro e W0 ⟨rfl, rfl⟩
            go_wp2
            go_ret
            exact ⟨rfl, Hb.out⟩
    · go_enter Tryd.func9, Tryd.ntmps9
      go_wp2_with fail
      refine (Hk.out _ (HT.out.below Hb.out)).mono ?_
      rintro e W1 ⟨rfl, hb⟩
      replace Hb := Lib.hid (Hb.out.trans (hb.mono Hb.out.size))
      clear hb
      go_wp2
      go_ret
      exact ⟨rfl, Hb.out⟩
  · go_enter Tryd.func9, Tryd.ntmps9
    go_wp2_with fail
    refine (Hk.out _ (HT.out.below Hb.out)).mono ?_
    rintro e W1 ⟨rfl, hb⟩
    replace Hb := Lib.hid (Hb.out.trans (hb.mono Hb.out.size))
    clear hb
    go_wp2
    go_ret
    exact ⟨rfl, Hb.out⟩
end Go.Proofs.YtapiofcdifligaaDoor
