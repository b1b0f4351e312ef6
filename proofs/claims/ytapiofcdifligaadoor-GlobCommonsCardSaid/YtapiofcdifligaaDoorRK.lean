/- The reference's beginning. -/
import Derived.Test.YtapiofcdifligaaDoorRJ
import Derived.Test.YtapiofcdifligaaDoorMg3
import Derived.Laws.IdiomStrings
namespace Go.Proofs.YtapiofcdifligaaDoor
open Go.RowKit

theorem one_text (b : UInt8) (w : World) : ∃ x : ByteArray, x.data.toList = [b] ∧ Sem.run Tryd.prog (convert 56 9 (.slice (some ⟨w.heap.size, 0, none⟩) 1 1)) (w.alloc (.cells #[.int .u8 (b.toNat : Int)] 5)) = .ok (.string x) (w.alloc (.cells #[.int .u8 (b.toNat : Int)] 5)) := by
  refine ⟨⟨#[b]⟩, rfl, ?_⟩
  have h := run_convert_bytes_back (P := Tryd.prog) (w.alloc (.cells #[.int .u8 (b.toNat : Int)] 5)) 56 9 5 ⟨w.heap.size, 0, none⟩ 1 [b] Tryd.underlying56 Tryd.underlying5 Tryd.underlying9 (fun j hj => by
    match j, hj with
    | 0, _ =>
      have hadd : (⟨w.heap.size, 0, none⟩ : Addr).add 0 = ⟨w.heap.size, 0, none⟩ := by unfold Addr.add; split <;> simp_all
      rw [hadd, cell_of_row _ _ 0 _ _ _ (heap_alloc_last w (.cells #[.int .u8 (b.toNat : Int)] 5))]
      rfl
    | n + 1, h => simp at h)
  exact h

theorem leastS_single (b : UInt8) : (leastS fun y : UInt8 => y == b).getD 0 = b := by
  obtain ⟨c, h, hc, _⟩ := leastS_of (S := fun y : UInt8 => y == b) (d := b) (by simp)
  rw [h]
  exact beq_iff_eq.1 hc

theorem size_app (p q : ByteArray) : (p ++ q).data.toList = p.data.toList ++ q.data.toList := by simp

theorem begB_step {l : List El} {i : Nat} {e : El} {b : UInt8} (h : l[i]? = some e) (hs : e.self = true) (hset : e.set = fun y => y == b) : begB (l.drop i) = b :: begB (l.drop (i + 1)) := by
  obtain ⟨hi, he⟩ := List.getElem?_eq_some_iff.1 h
  rw [List.drop_eq_getElem_cons hi, he, begB, hs, if_pos rfl, hset, leastS_single]
theorem begB_stop {l : List El} {i : Nat} {e : El} (h : l[i]? = some e) (hs : e.self = false) : begB (l.drop i) = [] := by
  obtain ⟨hi, he⟩ := List.getElem?_eq_some_iff.1 h
  rw [List.drop_eq_getElem_cons hi, he, begB, hs]
  rfl

set_option maxHeartbeats 1000000 in
set_option maxRecDepth 100000 in
theorem refBeginning_any (l : List El) (vl : Value) (w : World) (hl : l.length ≤ 256) (hg : ∀ e ∈ l, ElGood e) (hv : PSl w vl l) : Calls Tryd.prog 34 #[vl] w (Bel (.string ⟨(begB l).toArray⟩) w) := by
  obtain ⟨aj, cj, gj, rfl, haj, hgj, hels⟩ := hv
  have Hels := Lib.hid hels
  have Hgj := Lib.hid hgj
  have Hg := Lib.hid hg
  obtain ⟨R, hR⟩ : ∃ R, begB l = R := ⟨_, rfl⟩
  rw [hR]
  have HR := Lib.hid hR
  clear hels hgj hg hR
  go_enter Tryd.func34, Tryd.ntmps34
  go_wp2
  go_loopw [3, 4] (fun s3 s4 wx => ∃ (i : Nat) (q : ByteArray), i ≤ l.length ∧ s4 = .int .i64 (i : Int) ∧ s3 = .string q ∧ q.data.toList ++ begB (l.drop i) = R ∧ q.size ≤ i ∧ Below w.heap.size w wx) (fun _ s4 _ => l.length - (intOf s4).toNat)
  case atStart => exact ⟨0, ⟨#[]⟩, by omega, rfl, rfl, by rw [List.drop_zero]; exact HR.out, Nat.le_refl 0, Below.refl _ _⟩
  case round =>
    obtain ⟨i, q, hi, rfl, rfl, hq, hqs, hb⟩ := hrel
    have Hq := Lib.hid hq
    have Hb := Lib.hid hb
    clear hq hb
    by_cases hlt : i < l.length
    · have hiz : (i : Int) < (l.length : Int) := by omega
      obtain ⟨e, he⟩ : ∃ e, l[i]? = some e := ⟨_, List.getElem?_eq_getElem hlt⟩
      obtain rfl := haj (by omega)
      have hcL := (Hb.out.cell (p := ⟨gj, i * 130 + 1, none⟩) Hgj.out).trans (Hels.out i e he).2.1
      cases hself : e.self with
      | false =>
        rw [hself] at hcL
        have hfin := Hq.out
        rw [begB_stop he hself, List.append_nil] at hfin
        have Hfin := Lib.hid (show q = ⟨R.toArray⟩ by rw [← hfin])
        clear hfin he hself
        go_wp2
        go_ret
        exact ⟨by rw [← Hfin.out]; rfl, Hb.out⟩
      | true =>
        rw [hself] at hcL
        obtain ⟨b, hbt, hst, hset⟩ := (Hg.out e (List.mem_of_getElem? he)).2 hself
        have hnext := Hq.out
        rw [begB_step he hself hset] at hnext
        have hb126 : b.toNat ≤ 126 ∧ 32 ≤ b.toNat := by
          unfold isText at hbt
          simp only [Bool.and_eq_true, decide_eq_true_eq] at hbt
          exact ⟨hbt.2, hbt.1⟩
        have hcX : ∀ c : Nat, c < 128 → w.cell? ⟨gj, i * 130 + 2 + c, none⟩ = some (.bool (decide (c = b.toNat))) := fun c hc => by
          have h1 := (Hels.out i e he).2.2 c hc
          rw [← Nat.add_assoc] at h1
          rw [h1]
          unfold setOfE
          rw [hst, hset]
          simp only [Bool.false_eq_true, if_false]
          congr 2
          rw [Bool.eq_iff_iff, beq_iff_eq, decide_eq_true_eq]
          constructor
          · intro h
            rw [← h]
            simp
            omega
          · intro h
            rw [h]
            simp
        have HcX := Lib.hid hcX
        have Hnext := Lib.hid hnext
        clear hnext hcX hself hset hst hbt he
        go_wp2
        go_loopw [3, 5] (fun s3 s5 wx => ∃ (c : Nat) (q' : ByteArray), 32 ≤ c ∧ c ≤ 127 ∧ s5 = .int .i64 (c : Int) ∧ s3 = .string q' ∧ q'.data.toList = q.data.toList ++ (if c ≤ b.toNat then [] else [b]) ∧ Below w.heap.size w wx) (fun _ s5 _ => 127 - (intOf s5).toNat)
        case atStart => exact ⟨32, q, Nat.le_refl _, by omega, rfl, rfl, by rw [if_pos hb126.2, List.append_nil], Hb.out⟩
        case round =>
          obtain ⟨c, q', hc1, hc2, rfl, rfl, hq', hbx⟩ := hrel
          have Hq' := Lib.hid hq'
          have Hbx := Lib.hid hbx
          have hq's : q'.size ≤ i + 1 := by
            rw [Lib.size_eq, hq', List.length_append, ← Lib.size_eq]
            split <;> simp <;> omega
          clear hq' hbx
          by_cases hle : (c : Int) ≤ 126
          · have hci : (c : Int) < 128 := by omega
            have hcc := (Hbx.out.cell (p := ⟨gj, i * 130 + 2 + c, none⟩) Hgj.out).trans (HcX.out c (by omega))
            by_cases hcb : c = b.toNat
            · subst hcb
              rw [decide_eq_true rfl] at hcc
              obtain ⟨x, hx, kc⟩ := one_text b wr
              have hxs : x.size ≤ 1 := by rw [Lib.size_eq, hx]; simp
              have hsum : (q'.size : Int) + (x.size : Int) ≤ 1000 := by omega
              have hn : (q' ++ x).data.toList = q.data.toList ++ (if b.toNat + 1 ≤ b.toNat then [] else [b]) := by
                rw [size_app, Hq'.out, if_pos (Nat.le_refl _), if_neg (by omega), List.append_nil, hx]
              have Hn := Lib.hid hn
              have Hb2 := Lib.hid (Hbx.out.alloc Hbx.out.size (.cells #[.int .u8 (b.toNat : Int)] 5))
              clear hn hx
              go_wp2_with (rw [kc])
              exact ⟨⟨b.toNat + 1, q' ++ x, by omega, by omega, rfl, rfl, Hn.out, Hb2.out⟩, by simp [intOf]; omega⟩
            · rw [decide_eq_false hcb] at hcc
              have hn : q'.data.toList = q.data.toList ++ (if c + 1 ≤ b.toNat then [] else [b]) := by
                rw [Hq'.out]
                congr 1
                by_cases h : c ≤ b.toNat
                · rw [if_pos h, if_pos (by omega)]
                · rw [if_neg h, if_neg (by omega)]
              have Hn := Lib.hid hn
              clear hn hcb
              go_wp2
              exact ⟨⟨c + 1, q', by omega, by omega, rfl, rfl, Hn.out, Hbx.out⟩, by simp [intOf]; omega⟩
          · obtain rfl : c = 127 := by omega
            have hn := Hq'.out
            rw [if_neg (by omega)] at hn
            have hfin : q'.data.toList ++ begB (l.drop (i + 1)) = R := by
              rw [hn, List.append_assoc]
              exact Hnext.out
            have Hfin := Lib.hid hfin
            clear hn hfin
            go_wp2
            exact ⟨⟨i + 1, q', by omega, rfl, rfl, Hfin.out, hq's, Hbx.out⟩, by simp [intOf]; omega⟩
    · obtain rfl : i = l.length := by omega
      have hfin := Hq.out
      rw [List.drop_length] at hfin
      have Hfin := Lib.hid (show q = ⟨R.toArray⟩ by rw [← hfin]; simp [begB])
      clear hfin
      go_wp2
      go_ret
      exact ⟨by rw [← Hfin.out]; rfl, Hb.out⟩
end Go.Proofs.YtapiofcdifligaaDoor
