/- The walk of SocketOrder. -/
import Derived.Test.YtikjbhjdpamceaaI
import Derived.Test.YtikjbhjdpamceaaE
namespace Go.Proofs.Ytikjbhjdpamceaa
open Go.RowKit

def OrdAt (w0 : World) (tb sb rb cap i : Nat) (s6 s7 s8 : Value) (w : World) : Prop :=
  ∃ (k : Nat) (l sent got : List Ev) (lost : Bool), s8 = .bool lost ∧ k ≤ 2 * i ∧ sent.length ≤ i ∧ Ord w0 w tb sb rb cap k l sent got s6 s7 lost ∧ sent = got ++ l

theorem cells_new5 (w : World) (cs : List Value) (t : TypeId) : ∀ j u, cs[j]? = some u → (w.alloc (.cells cs.toArray t)).cell? ((⟨w.heap.size, 0, none⟩ : Addr).add j) = some u := fun j u hj => by
  rw [show (⟨w.heap.size, 0, none⟩ : Addr).add j = ⟨w.heap.size, 0 + j, none⟩ by unfold Addr.add; split <;> simp_all, cell_of_row _ _ _ _ _ _ (al_new w _)]
  simpa using hj

set_option maxHeartbeats 2000000 in
set_option maxRecDepth 100000 in
theorem socketOrder_walk (a : Option Addr) (n c : Nat) (w : World) (hi : Ints w w.heap.size (.slice a n c)) : Calls Try.prog 5 #[.slice a n c] w fun e w' => e = .returned (.bool true) ∧ Below w.heap.size w w' := by
  obtain ⟨i0, hi0, hz0, hz1, hz2⟩ := info_parts info42
  have ht0 := tape_new hi
  obtain ⟨w1, hw1⟩ : ∃ w1, w.alloc (.cells #[.slice a n c, .int .i64 0] 26) = w1 := ⟨_, rfl⟩
  rw [hw1] at ht0
  obtain ⟨tb, htb⟩ : ∃ tb, w.heap.size = tb := ⟨_, rfl⟩
  rw [htb] at ht0
  have hk1 : Kp [] w w1 := by rw [← hw1]; exact (Kp.refl [] w).alloc _
  have HN := Lib.hid (next_any tb 0 5 w1 (by omega) (by omega) (by omega) ht0)
  have HT := Lib.hid ht0
  have HB := Lib.hid htb
  have K1 := Lib.hid hk1
  clear ht0 hk1 hi
  go_enter Try.func5, Try.ntmps5
  go_wp2_with fail
  clear hw1 htb
  refine HN.out.mono ?_
  rintro e w2 ⟨r, hr, rfl, ht, hg, -⟩
  have T2 := Lib.hid ht
  have K2 := Lib.hid (K1.out.up (Kp.of_grown hg) (by have := HB.out; simp; omega))
  obtain ⟨cap, hcap⟩ : ∃ cap, r + 1 = cap := ⟨_, rfl⟩
  have hwr : IntKind.i64.wrap (1 + (r : Int)) = (cap : Int) := by rw [IntKind.wrap_i64]; omega
  have hc1 : 1 ≤ cap := by omega
  have hc2 : cap ≤ 256 := by omega
  clear hcap hr ht hg
  go_wp2_with fail
  clear hwr
  refine (new_any cap _ hc1 hc2).mono ?_
  rintro e w3 ⟨sb, rb, rfl, hq, hs1, hs2, hk⟩
  have htl := T2.out.lt
  have hord : Ord w w3 tb sb rb cap 1 [] [] [] (.slice none 0 0) (.slice none 0 0) false :=
    ⟨⟨by rw [HB.out]; exact Nat.le_refl _, by omega, by omega, hq.lt.2.2.1⟩, T2.out.kp hk (by simp), hq, EOwn.nil _ _, EOwn.nil _ _, fun b hb => (by cases hb), fun b hb => (by cases hb), fun b hb => (by cases hb), K2.out.trans hk⟩
  have O3 := Lib.hid hord
  clear hq hs1 hs2 hk hord htl
  go_wp2_with fail
  refine (known_any _).mono ?_
  rintro e w4 ⟨rfl, hk⟩
  have O4 := Lib.hid (O3.out.kp0 hk)
  clear hk
  go_wp2_with fail
  go_loopw [6, 7, 8, 9] (fun s6 s7 s8 s9 wx => ∃ i : Nat, 1 ≤ i ∧ i ≤ 60 ∧ s9 = .int .i64 (i : Int) ∧ OrdAt w tb sb rb cap i s6 s7 s8 wx) (fun _ _ _ s9 _ => 60 - (intOf s9).toNat)
  case atStart => exact ⟨1, by omega, by omega, rfl, 1, [], [], [], false, rfl, by omega, by simp, O4.out, rfl⟩
  case round =>
    obtain ⟨i, hi1, hi2, rfl, k, l, sent, got, lost, rfl, hk, hsl, hO, heq⟩ := hrel
    have HO := Lib.hid hO
    obtain ⟨sa, sc, rfl⟩ := hO.so.form
    obtain ⟨ga, gc, rfl⟩ := hO.go.form
    have hgl : got.length + l.length = sent.length := by rw [heq, List.length_append]
    have hlc := hO.que.lt.2.2.2
    clear hO
    by_cases hlt : i < 60
    · have hlti : (i : Int) < 60 := by omega
      have hwi : IntKind.i64.wrap ((i : Int) + 1) = ((i + 1 : Nat) : Int) := by rw [IntKind.wrap_i64]; omega
      have HE := Lib.hid heq
      clear heq
      go_wp2_with fail
      refine (next_any tb k 5 _ (by omega) (by omega) (by omega) HO.out.tape).mono ?_
      rintro e w5 ⟨r, hr, rfl, ht, hg, -⟩
      have O5 := Lib.hid (HO.out.next ht (Kp.of_grown hg))
      clear ht hg
      by_cases r0 : r = 0
      · subst r0
        go_wp2_with fail
        refine (next_any tb (k + 1) 4 _ (by omega) (by omega) (by omega) O5.out.tape).mono ?_
        rintro e w6 ⟨r, hr2, rfl, ht, hg, -⟩
        have O6 := Lib.hid (O5.out.next ht (Kp.of_grown hg))
        clear ht hg
        go_wp2_with fail
        obtain ⟨m, hm⟩ : ∃ m, min r l.length = m := ⟨_, rfl⟩
        refine (receive_any (r : Int) m O6.out.que (by omega) (by omega)).mono ?_
        rintro e w7 ⟨g, rfl, hg7, hh, hq, hk7⟩
        have O7 := Lib.hid (O6.out.sock hq hk7)
        have hml : m ≤ l.length := by omega
        have hlt7 : (l.take m).length = m := by rw [List.length_take]; omega
        have HTL := Lib.hid O7.out.tape.lt
        have HS := Lib.hid (src_all (sp := []) (by rw [List.append_nil]; exact hh))
        have HL := Lib.hid (show (evsC (l.take m)).length = m * 5 by rw [evsC_len, hlt7])
        have heq2 : sent = (got ++ l.take m) ++ l.drop m := by rw [List.append_assoc, List.take_append_drop]; exact HE.out
        have HE2 := Lib.hid heq2
        have HLT := Lib.hid hlt7
        clear hq hk7 hh hg7 heq2 hlt7 hm hwi
        go_wp2_with (at_builtin; refine wpList_append_own_at _ rfl _ _ 23 rfl (tb + 1) 42 i0 _ 5 56 Try.underlying23 hi0 hz0 hz1 hz2 rfl (by decide) _ _ _ rfl O7.out.go ⟨g, 0, none⟩ m m (evsC (l.take m)) rfl HL.out HS.out (evsC_one _) (by unfold maxLen; omega) (by omega) (Nat.succ_le_of_lt HTL.out) ?_; intro v8 w8 hown8 hgrow8 _ hat8; have O8 := Lib.hid (O7.out.gain (news := l.take m) (by rw [HLT.out]; exact hown8) hgrow8 hat8); obtain ⟨ga8, gc8, rfl⟩ := O8.out.go.form; clear hown8 hgrow8 hat8 HS HL HLT; generalize got ++ l.take m = got8 at *)
        have heq3 := HE2.out
        clear HE2
        generalize l.drop m = l8 at *
        have hwi : IntKind.i64.wrap ((i : Int) + 1) = ((i + 1 : Nat) : Int) := by rw [IntKind.wrap_i64]; omega
        have hlen : got8.length + l8.length = sent.length := by have := congrArg List.length heq3; rw [List.length_append] at this; omega
        have hwl : IntKind.i64.wrap ((got8.length : Int) + (l8.length : Int)) = (sent.length : Int) := by rw [IntKind.wrap_i64]; omega
        have HEQ := Lib.hid heq3
        clear hlen heq3
        go_wp2_with fail
        refine (len_any O8.out.que).mono ?_
        rintro e w9 ⟨rfl, rfl⟩
        go_wp2
        exact ⟨⟨i + 1, by omega, by omega, rfl, k + 1 + 1, l8, sent, got8, lost, rfl, by omega, by omega, O8.out, HEQ.out⟩, by simp [intOf]; omega⟩
      by_cases r1 : r = 1
      · subst r1
        go_wp2_with fail
        refine (lost_any O5.out.que).mono ?_
        rintro e w6 ⟨rfl, hq, hk6, -⟩
        have O6 := Lib.hid (O5.out.sock hq (hk6.mono (by simp)))
        clear hq hk6
        have heq3 := HE.out
        have hlen : got.length + l.length = sent.length := by have := congrArg List.length heq3; rw [List.length_append] at this; omega
        have hwl : IntKind.i64.wrap ((got.length : Int) + (l.length : Int)) = (sent.length : Int) := by rw [IntKind.wrap_i64]; omega
        have HEQ := Lib.hid heq3
        clear hlen heq3
        go_wp2_with fail
        refine (len_any O6.out.que).mono ?_
        rintro e w9 ⟨rfl, rfl⟩
        go_wp2
        exact ⟨⟨i + 1, by omega, by omega, rfl, k + 1, l, sent, got, false, rfl, by omega, by omega, O6.out, HEQ.out⟩, by simp [intOf]; omega⟩
      have hr0 : ((r : Int) == 0) = false := by simp; omega
      have hr1 : ((r : Int) == 1) = false := by simp; omega
      have hr0' : ¬ ((r : Int) = 0) := by omega
      have hr1' : ¬ ((r : Int) = 1) := by omega
      have hal : Kp [] w5 (w5.alloc (.cells #[.int .i64 (i : Int), .int .i64 0, .int .i64 0, .string ByteArray.empty, .string ByteArray.empty] 42)) := (Kp.refl [] w5).alloc _
      have O6 := Lib.hid (O5.out.kp0 hal)
      clear hal
      by_cases hfull : l.length = cap
      · go_wp2_with fail
        refine (sendn_full (i : Int) O6.out.que hfull).mono ?_
        rintro e w7 ⟨rfl, hq, hk7⟩
        have O7 := Lib.hid (O6.out.sock hq (hk7.mono (by simp)))
        clear hq hk7 hfull
        have heq3 := HE.out
        have hlen : got.length + l.length = sent.length := by have := congrArg List.length heq3; rw [List.length_append] at this; omega
        have hwl : IntKind.i64.wrap ((got.length : Int) + (l.length : Int)) = (sent.length : Int) := by rw [IntKind.wrap_i64]; omega
        have HEQ := Lib.hid heq3
        clear hlen heq3
        go_wp2_with fail
        refine (len_any O7.out.que).mono ?_
        rintro e w9 ⟨rfl, rfl⟩
        go_wp2
        exact ⟨⟨i + 1, by omega, by omega, rfl, k + 1, l, sent, got, true, rfl, by omega, by omega, O7.out, HEQ.out⟩, by simp [intOf]; omega⟩
      have hroom : l.length < cap := by omega
      have hwA : (w5.alloc (.cells #[.int .i64 (i : Int), .int .i64 0, .int .i64 0, .string ByteArray.empty, .string ByteArray.empty] 42)).heap[w5.heap.size]? = some (.cells #[.int .i64 (i : Int), .int .i64 0, .int .i64 0, .string ByteArray.empty, .string ByteArray.empty] 42 (0, 0)) := al_new _ _
      have hAs : w5.heap.size < (w5.alloc (.cells #[.int .i64 (i : Int), .int .i64 0, .int .i64 0, .string ByteArray.empty, .string ByteArray.empty] 42)).heap.size := by rw [al_size]; omega
      have hsb := O5.out.que.lt
      have HA := Lib.hid hwA
      have HAs := Lib.hid hAs
      clear hwA hAs
      go_wp2_with fail
      refine (sendn_any (i : Int) O6.out.que hroom).mono ?_
      rintro e w7 ⟨rfl, hq, hk7⟩
      have hA7 := (hk7.block _ HAs.out (by simp; omega)).trans HA.out
      have O7 := Lib.hid (O6.out.sock hq hk7)
      have a0 := cell_of_row _ _ 0 _ _ _ hA7
      have a1 := cell_of_row _ _ 1 _ _ _ hA7
      have a2 := cell_of_row _ _ 2 _ _ _ hA7
      have a3 := cell_of_row _ _ 3 _ _ _ hA7
      have a4 := cell_of_row _ _ 4 _ _ _ hA7
      simp only [List.getElem?_toArray, List.getElem?_cons_zero, List.getElem?_cons_succ] at a0 a1 a2 a3 a4
      have hal7 : Kp [] w7 (w7.alloc (.cells #[.int .i64 (i : Int), .int .i64 0, .int .i64 0, .string ByteArray.empty, .string ByteArray.empty] 42)) := (Kp.refl [] w7).alloc _
      have O7b := Lib.hid (O7.out.kp0 hal7)
      have HTL := Lib.hid O7b.out.tape.lt
      have HS := Lib.hid (cells_new5 w7 (evsC [evn (i : Int)]) 42)
      have heq2 : sent ++ [evn (i : Int)] = got ++ (l ++ [evn (i : Int)]) := by rw [HE.out, List.append_assoc]
      have HE2 := Lib.hid heq2
      clear hq hk7 hA7 hal7 heq2 hsb
      have HSL := Lib.hid (show (sent ++ [evn (i : Int)]).length ≤ i + 1 by rw [List.length_append]; simp; omega)
      have HLL := Lib.hid (show (l ++ [evn (i : Int)]).length ≤ i + 1 by rw [List.length_append]; simp; omega)
      go_wp2_with (at_builtin; refine wpList_append_own_at _ rfl _ _ 23 rfl (tb + 1) 42 i0 _ 5 56 Try.underlying23 hi0 hz0 hz1 hz2 rfl (by decide) _ _ _ rfl O7b.out.so ⟨w7.heap.size, 0, none⟩ 1 1 (evsC [evn (i : Int)]) rfl rfl HS.out (evsC_one _) (by unfold maxLen; omega) (by omega) (Nat.succ_le_of_lt HTL.out) ?_; intro v8 w8 hown8 hgrow8 _ hat8; have O8 := Lib.hid ((O7b.out.swap.gain (news := [evn (i : Int)]) hown8 hgrow8 hat8).swap); obtain ⟨sa8, sc8, rfl⟩ := O8.out.so.form; clear hown8 hgrow8 hat8 HS; generalize sent ++ [evn (i : Int)] = sent8 at *)
      have heq3 := HE2.out
      have hsl8 := HSL.out
      have hll8 := HLL.out
      clear HE2 a0 a1 a2 a3 a4
      generalize l ++ [evn (i : Int)] = l8 at *
      have hlen : got.length + l8.length = sent8.length := by have := congrArg List.length heq3; rw [List.length_append] at this; omega
      have hwl : IntKind.i64.wrap ((got.length : Int) + (l8.length : Int)) = (sent8.length : Int) := by rw [IntKind.wrap_i64]; omega
      have HEQ := Lib.hid heq3
      clear hlen heq3
      go_wp2_with fail
      refine (len_any O8.out.que).mono ?_
      rintro e w9 ⟨rfl, rfl⟩
      go_wp2
      exact ⟨⟨i + 1, by omega, by omega, rfl, k + 1, l8, sent8, got, lost, rfl, by omega, by omega, O8.out, HEQ.out⟩, by simp [intOf]; omega⟩
    · have hi60 : i = 60 := by omega
      subst hi60
      have hlti : ¬ ((60 : Int) < 60) := by omega
      have HE := Lib.hid heq
      clear heq
      go_wp2_with fail
      refine (len_any HO.out.que).mono ?_
      rintro e w9 ⟨rfl, rfl⟩
      go_wp2_with fail
      refine (receive_any (l.length : Int) l.length HO.out.que (Nat.le_refl _) (by omega)).mono ?_
      rintro e w7 ⟨g, rfl, hg7, hh, hq, hk7⟩
      rw [List.take_length] at hh
      have O7 := Lib.hid (HO.out.sock hq hk7)
      have HTL := Lib.hid O7.out.tape.lt
      have HS := Lib.hid (src_all (sp := []) (by rw [List.append_nil]; exact hh))
      have HL := Lib.hid (evsC_len l)
      clear hq hk7 hh hg7
      go_wp2_with (at_builtin; refine wpList_append_own_at _ rfl _ _ 23 rfl (tb + 1) 42 i0 _ 5 56 Try.underlying23 hi0 hz0 hz1 hz2 rfl (by decide) _ _ _ rfl O7.out.go ⟨g, 0, none⟩ l.length l.length (evsC l) rfl HL.out HS.out (evsC_one _) (by unfold maxLen; omega) (by omega) (Nat.succ_le_of_lt HTL.out) ?_; intro v8 w8 hown8 hgrow8 _ hat8; have O8 := Lib.hid (O7.out.gain (news := l) hown8 hgrow8 hat8); clear hown8 hgrow8 hat8 HS HL)
      rw [← HE.out] at O8
      refine (same_any (by omega) O8.out.go.has O8.out.so.has).mono ?_
      rintro e w10 ⟨rfl, nn, rfl⟩
      go_wp2
      go_ret
      exact ⟨rfl, (O8.out.kp.drew nn).below (Nat.le_refl _) (by simp)⟩
end Go.Proofs.Ytikjbhjdpamceaa
