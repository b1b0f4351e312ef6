/- first; rows of pieces: a text that goes on; appendPiece. -/
import Derived.Test.YtfpkppgecmbglaaGreatDoorL
namespace Go.Proofs.YtfpkppgecmbglaaGreatDoor
open Go.RowKit

theorem stepL_letterK (c : UInt8) (u : List UInt8) (h : c ≠ 37) : stepL nmB kyB (37 :: c :: u) = placeL nmB kyB (kindOfLetter c) u := by
  unfold stepL
  dsimp only
  rw [if_neg (by simp), if_neg (by rw [List.head?_cons]; intro e; exact h (Option.some.inj e)), if_pos rfl]
theorem stepL_wordK (t : List UInt8) (h : t.head? ≠ some 36) : stepL nmB kyB (36 :: t) = placeL nmB kyB (kindOfWord (spanL azCh t).1) (spanL azCh t).2 := by
  unfold stepL
  dsimp only
  rw [if_neg (by simp), if_neg h, if_neg (by decide)]
theorem first_any {s : List UInt8} {w : World} (hE : Env w) (hne : s ≠ []) (hs : s.length ≤ 900000) (ha : s.all prCh = true) : Calls Tryz.prog 30 #[.string (bs s)] w (FirstPost s w) := by
  by_cases h : (spanL plainCh s).1 ≠ []
  · exact first_text (by omega) ha h
  have h := Decidable.of_not_not h
  cases s with
  | nil => exact absurd rfl hne
  | cons b t =>
    rw [List.length_cons] at hs
    have hb : plainCh b = false := by
      cases hb : plainCh b with
      | false => rfl
      | true => rw [spanL, if_pos hb] at h; cases h
    by_cases ht : t.head? = some b
    · cases t with
      | nil => cases ht
      | cons c u =>
        obtain rfl : c = b := by simpa using ht
        rw [List.length_cons] at hs
        exact first_twice (by omega) ha hb
    · have hb2 : b = 36 ∨ b = 37 := by
        simp only [plainCh, Bool.and_eq_false_iff, bne_eq_false_iff_eq] at hb
        exact hb
      rcases hb2 with rfl | rfl
      · have hsl := spanL_len azCh t
        obtain ⟨he, _, _⟩ := spanL_eq azCh t
        have hk := kindOfWord_le (spanL azCh t).1
        refine first_tail hE (n := (spanL azCh t).1.length + 1) (k := kindOfWord (spanL azCh t).1) (sp := 36 :: (spanL azCh t).1) (rest := (spanL azCh t).2) (by omega) ha hb ht (by omega) ?_ ?_ (kindS_word _) (by omega) (stepL_wordK t ht) fun W => spLen_word 36 t W (by decide) (by omega)
        · rw [List.take_succ_cons]
          congr 1
          generalize (spanL azCh t).1 = x at *
          generalize (spanL azCh t).2 = y at *
          rw [← he, List.take_left' rfl]
        · rw [List.drop_succ_cons]
          generalize (spanL azCh t).1 = x at *
          generalize (spanL azCh t).2 = y at *
          rw [← he, List.drop_left' rfl]
      · cases t with
        | nil =>
          exact first_tail hE (n := 1) (k := 0) (sp := [37]) (rest := []) (by simp) ha hb ht (by simp) rfl rfl kindS_one (.inl rfl) rfl fun W => spLen_letter [] W (by simp)
        | cons c u =>
          rw [List.length_cons] at hs
          have hc : c ≠ 37 := fun e => ht (by rw [e]; rfl)
          have hk := kindOfLetter_le c
          have hL := fun W => spLen_letter (c :: u) W (by rw [List.length_cons]; omega)
          rw [show min 2 ((c :: u).length + 1) = 2 by simp] at hL
          exact first_tail hE (n := 2) (k := kindOfLetter c) (sp := [37, c]) (rest := u) (by rw [List.length_cons]; omega) ha hb ht (by simp) rfl rfl (kindS_letter c) (by omega) (stepL_letterK c u hc) hL
theorem run_add_str {P : Program} (W : World) (a b : ByteArray) (h : a.size + b.size ≤ 100000000000) : (Op.stringOp .add a b).run P W = .ok (.string (a ++ b)) W :=
  run_string_add_sum W a b (by omega)
/-- The text of the last piece of an own row goes on. -/
theorem gp_store {w : World} {B : Nat} {sv : Value} {l : List Gp} {x : Gp} (h : gpT.Own w B sv (l ++ [x])) :
    ∃ g cap, sv = .slice (some ⟨g, 0, none⟩) (l.length + 1) cap ∧ B ≤ g ∧ g < w.heap.size ∧ w.frozen? ⟨g, l.length * 4 + 1, none⟩ = false ∧ w.cell? ⟨g, l.length * 4, none⟩ = some (.int .i64 x.kind) ∧ w.cell? ⟨g, l.length * 4 + 1, none⟩ = some (.string (bs x.text)) ∧
      ∀ t, gpT.Own (w.setCell ⟨g, l.length * 4 + 1, none⟩ (.string (bs t))) B sv (l ++ [{ x with text := t }]) := by
  have hf := h.form2
  rcases h.2 with ⟨_, hn⟩ | ⟨g, cap, cur, hv, hB, hh, hc, hcm, hcz, ht⟩
  · simp at hn
  have hrow : gpT.Row w g 0 (l ++ [x]) := RT.row_of (cur := cur.toList) (by rw [Array.toArray_toList]; exact hh) ht
  obtain ⟨d0, d1, d2, d3⟩ := gpRow hrow (j := l.length) (x := x) (by simp)
  rw [Nat.zero_add] at d0 d1
  refine ⟨g, cap, by rw [hv]; simp, hB, block_lt hh, by simp [World.frozen?, hh], d0, d1, fun t => ⟨?_, .inr ⟨g, cap, cur.setIfInBounds (l.length * 4 + 1) (.string (bs t)), ?_, hB, ?_, ?_, hcm, ?_, ?_⟩⟩⟩
  · rw [gpT.cells_len]
  · rw [hv]; simp
  · simp [World.setCell, Array.getElem?_modify, hh]
  · simpa using hc
  · rw [Array.size_setIfInBounds]; exact hcz
  · rw [Array.toList_setIfInBounds, List.take_set]
    have hlen : (l ++ [({ x with text := t } : Gp)]).length = (l ++ [x]).length := by simp
    rw [hlen, ht, RT.cells_append, RT.cells_append, List.set_append_right _ _ (by rw [gpT.cells_len]; show l.length * 4 ≤ _; omega), gpT.cells_len]
    rw [show l.length * 4 + 1 - l.length * gpT.sz = 1 by show l.length * 4 + 1 - l.length * 4 = 1; omega]
    rfl
theorem kp_grownB {w W W' : World} {B : Nat} {v : Value} (hB : Below B w W) (hb : B ≤ W.heap.size) (hg : W.grownBy W' v.ownBlock) (hv : ∀ b, v.ownBlock = some b → B ≤ b) : Below B w W' :=
  hB.trans ⟨hg.os, hg.tape, hg.output, hg.size, fun k hk => hg.block k (Nat.lt_of_lt_of_le hk hb) fun e => by have := hv k e.symm; omega⟩
set_option maxHeartbeats 4000000 in
set_option maxRecDepth 100000 in
theorem appendPiece_any {w : World} {B : Nat} {v : Value} (acc : List Pc) (p : Pc) (h : gpT.Own w B v (acc.map Pc.g)) (hB : B ≤ w.heap.size) (hl : acc.length ≤ 900000) (hz : tsum acc + p.text.length ≤ 1000000000) :
    Calls Tryz.prog 31 #[v, .agg (gpC p.g)] w fun e w' => ∃ v', e = .returned v' ∧ gpT.Own w' B v' ((addP acc p).map Pc.g) ∧ Below B w w' := by
  obtain ⟨W, hW⟩ : ∃ W, w.alloc (.cells (gpC p.g) 61) = W := ⟨_, rfl⟩
  obtain ⟨W2, hW2⟩ : ∃ W2, W.alloc (.cells (gpC p.g) 61) = W2 := ⟨_, rfl⟩
  obtain ⟨T, hT⟩ : ∃ T, w.heap.size = T := ⟨_, rfl⟩
  obtain ⟨N, hN⟩ : ∃ N, T + 1 = N := ⟨_, rfl⟩
  have hsz : W.heap.size = N := by rw [← hW]; simp; omega
  have hPT : PAt W T p.g := by rw [← hW, ← hT]; exact PAt.new w p.g
  have hPN : PAt W2 N p.g := by rw [← hW2, ← hsz]; exact PAt.new W p.g
  have hK : Kp [] w W := by rw [← hW]; exact (Kp.refl [] w).alloc _
  have hK2 : Kp [] w W2 := by rw [← hW2]; exact hK.alloc _
  have hO := h.kp0 hK
  have hO2 := h.kp0 hK2
  have hlT : ∀ b, v.ownBlock = some b → b ≠ T := fun b hb => by have := (h.ge b hb).2; omega
  obtain ⟨c0, c1, c2, c3⟩ := hPT.cells
  have HO := Lib.hid hO
  have HO2 := Lib.hid hO2
  have HBe := Lib.hid (hK.below hB (by simp))
  have HB2 := Lib.hid (hK2.below hB (by simp))
  have HPN := Lib.hid hPN.range
  have HW := Lib.hid hW
  have HW2 := Lib.hid hW2
  have HT := Lib.hid hT
  have HN := Lib.hid hN
  have HG := Lib.hid hlT
  have HS := Lib.hid hsz
  have HPT := Lib.hid hPT
  have HBW := Lib.hid (show B ≤ W2.heap.size from Nat.le_trans hB hK2.size)
  have hf := h.form
  clear hPT hPN hO hO2 hK hK2 hW hW2 hT hN hlT h hsz
  obtain ⟨pk, pt, pw, pm⟩ := p
  have HV := Lib.hid fun b (hb : v.ownBlock = some b) => (HO2.out.ge b hb).1
  simp only [Pc.g, gpC] at c0 c1 c2 c3 HW HW2 HPN HPT ⊢
  simp only at hz
  have HA := Lib.hid (show (acc.getLast? = none ∨ pk ≠ 1 ∨ ∃ q, acc.getLast? = some q ∧ q.kind ≠ 1) → addP acc ⟨pk, pt, pw, pm⟩ = acc ++ [⟨pk, pt, pw, pm⟩] from fun h => by
    rcases h with h | h | ⟨q, h, hq⟩
    · unfold addP
      rw [h]
    · exact addP_new _ _ (.inl h)
    · exact addP_new _ _ (.inr fun q' h' => by rw [h] at h'; cases h'; exact hq))
  obtain ⟨va, vc, rfl⟩ := hf
  rw [List.length_map] at HO HO2 HG HV ⊢
  have hlen : (acc.map Pc.g).length ≤ 1000000 := by rw [List.length_map]; omega
  have HLE := Lib.hid hlen
  clear hlen
  cases hla : acc.getLast? with
  | none =>
    have h0 : acc = [] := List.getLast?_eq_none_iff.1 hla
    have he := HA.out (.inl hla)
    subst h0
    rw [he]
    clear HA he hla
    simp only [List.length_nil] at HO HO2 HG HV ⊢
    go_enter Tryz.func31, Tryz.ntmps31
    go_upto_region 1 with fail
    rw [HT.out, HW.out]
    go_wp2_with (first
      | (at_builtin; rw [HS.out, HW2.out]; refine wpList_append_r (r := gpT) rfl (.tmp 35) (.tmp 37) rfl B (.slice va 0 vc) _ rfl HO2.out N 1 ⟨(pk : Int), pt, (pw : Int), pm⟩ rfl HPN.out HLE.out HBW.out ?_; intro v8 w8 hown8 hgr8; have HO8 := Lib.hid hown8; have HK8 := Lib.hid (kp_grownB HB2.out HBW.out hgr8 HV.out); clear hown8 hgr8))
    go_ret
    exact ⟨v8, rfl, by simpa [Pc.g] using HO8.out, HK8.out⟩
  | some q =>
    obtain ⟨l, rfl⟩ := List.getLast?_eq_some_iff.1 hla
    have HLL := Lib.hid hla
    clear hla
    rw [List.length_append, List.length_singleton] at HO HO2 HG HV hl ⊢
    have hO := HO.out
    rw [List.map_append, List.map_cons, List.map_nil] at hO
    obtain ⟨g, cap, hv, hBg, hgl, hfz, d0, d1, hput⟩ := gp_store hO
    rw [List.length_map] at hv hfz d0 d1 hput
    cases hv
    clear hO
    have HPU := Lib.hid hput
    have hgT := HG.out g rfl
    clear hput
    have hlw : IntKind.i64.wrap ((l.length : Int) + 1 - 1) = (l.length : Int) := by rw [IntKind.wrap_i64]; omega
    have hge : (0 : Int) ≤ (l.length : Int) := by omega
    have hlt : (l.length : Int) < (l.length : Int) + 1 := by omega
    have hpkq : (q.kind : Int) = q.g.kind := rfl
    rw [← hpkq] at d0
    by_cases hpk : pk = 1
    · by_cases hq : q.kind = 1
      · have he : addP (l ++ [q]) ⟨pk, pt, pw, pm⟩ = l ++ [⟨q.kind, q.text ++ pt, q.word, q.more⟩] := by
          unfold addP
          rw [HLL.out]
          simp only [hpk, hq, and_self, if_true, List.dropLast_concat]
        rw [he]
        have hqi : ((q.kind : Int) == 1) = true := by rw [beq_iff_eq]; omega
        have hpi : ((pk : Int) == 1) = true := by rw [beq_iff_eq]; omega
        have hts : q.text.length ≤ tsum (l ++ [q]) := by simp [tsum]
        have hadd := fun W => @run_add_str Tryz.prog W (bs q.text) (bs pt) (by rw [bs_size, bs_size]; omega)
        rw [bs_app] at hadd
        have d1' : W.cell? ⟨g, l.length * 4 + 1, none⟩ = some (.string (bs q.text)) := d1
        have HP2 := Lib.hid (show gpT.Own (W.setCell ⟨g, l.length * 4 + 1, none⟩ (.string (bs (q.text ++ pt)))).drew B (.slice (some ⟨g, 0, none⟩) (l.length + 1) vc) ((l ++ [(⟨q.kind, q.text ++ pt, q.word, q.more⟩ : Pc)]).map Pc.g) by
          rw [List.map_append]
          exact (HPU.out (q.text ++ pt)).kp0 ((Kp.refl [] _).drew 1))
        have hb2 := HBe.out.setCell (p := ⟨g, l.length * 4 + 1, none⟩) hBg (.string (bs (q.text ++ pt)))
        have HB3 := Lib.hid hb2
        clear HA he hq hpk d1 hb2 hts
        go_enter Tryz.func31, Tryz.ntmps31
        go_upto_region 1 with fail
        rw [HT.out, HW.out]
        go_wp2_with fail
        go_region
        all_goals go_wp2
        all_goals go_ret
        all_goals exact ⟨_, rfl, HP2.out, HB3.out.os, HB3.out.tape, HB3.out.output, HB3.out.size, HB3.out.block⟩
      · have he := HA.out (.inr (.inr ⟨q, HLL.out, hq⟩))
        rw [he]
        have hqi : ((q.kind : Int) == 1) = false := by rw [beq_eq_false_iff_ne]; omega
        have hpi : ((pk : Int) == 1) = true := by rw [beq_iff_eq]; omega
        clear HA he hq hpk
        go_enter Tryz.func31, Tryz.ntmps31
        go_upto_region 1 with fail
        rw [HT.out, HW.out]
        go_wp2_with (first
          | (at_builtin; rw [HS.out, HW2.out]; refine wpList_append_r (r := gpT) rfl (.tmp 35) (.tmp 37) rfl B (.slice (some ⟨g, 0, none⟩) (l.length + 1) vc) _ rfl HO2.out N 1 ⟨(pk : Int), pt, (pw : Int), pm⟩ rfl HPN.out HLE.out HBW.out ?_; intro v8 w8 hown8 hgr8; have HO8 := Lib.hid hown8; have HK8 := Lib.hid (kp_grownB HB2.out HBW.out hgr8 HV.out); clear hown8 hgr8))
        go_ret
        exact ⟨v8, rfl, by simpa [Pc.g] using HO8.out, HK8.out⟩
    · have he := HA.out (.inr (.inl hpk))
      rw [he]
      have hpi : ((pk : Int) == 1) = false := by rw [beq_eq_false_iff_ne]; omega
      clear HA he
      go_enter Tryz.func31, Tryz.ntmps31
      go_upto_region 1 with fail
      rw [HT.out, HW.out]
      go_wp2_with (first
        | (at_builtin; rw [HS.out, HW2.out]; refine wpList_append_r (r := gpT) rfl (.tmp 35) (.tmp 37) rfl B (.slice (some ⟨g, 0, none⟩) (l.length + 1) vc) _ rfl HO2.out N 1 ⟨(pk : Int), pt, (pw : Int), pm⟩ rfl HPN.out HLE.out HBW.out ?_; intro v8 w8 hown8 hgr8; have HO8 := Lib.hid hown8; have HK8 := Lib.hid (kp_grownB HB2.out HBW.out hgr8 HV.out); clear hown8 hgr8))
      go_ret
      exact ⟨v8, rfl, by simpa [Pc.g] using HO8.out, HK8.out⟩
end Go.Proofs.YtfpkppgecmbglaaGreatDoor
