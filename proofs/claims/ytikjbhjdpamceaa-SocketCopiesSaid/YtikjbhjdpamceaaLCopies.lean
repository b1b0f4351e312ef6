/- The walk of SocketCopies. -/
import Derived.Test.YtikjbhjdpamceaaI
import Derived.Test.YtikjbhjdpamceaaE
namespace Go.Proofs.Ytikjbhjdpamceaa
open Go.RowKit

def SomeQue (w : World) (sb rb cap : Nat) : Prop := ∃ l lost, Que w sb rb cap l lost
theorem send_gen {w : World} {sb rb cap : Nat} {l : List Ev} {lost : Bool} (n : Int) (h : Que w sb rb cap l lost) :
    Calls Try.prog 16 #[.pointer (some ⟨sb, 0, none⟩), .agg #[.int .i64 n, .int .i64 0, .int .i64 0, .string ByteArray.empty, .string ByteArray.empty]] w fun r w' => ∃ c : Int, r = .returned (.int .i64 c) ∧ SomeQue w' sb rb cap ∧ Kp [sb, rb] w w' := by
  by_cases hl : l.length = cap
  · exact (sendn_full n h hl).mono fun r w' ⟨h1, h2, h3⟩ => ⟨_, h1, ⟨_, _, h2⟩, h3.mono (by simp)⟩
  · exact (sendn_any n h (by have := h.lt.2.2.2; omega)).mono fun r w' ⟨h1, h2, h3⟩ => ⟨_, h1, ⟨_, _, h2⟩, h3⟩
theorem recv_gen {w : World} {sb rb cap : Nat} {l : List Ev} {lost : Bool} (z : Int) (h : Que w sb rb cap l lost) :
    Calls Try.prog 11 #[.pointer (some ⟨sb, 0, none⟩), .int .i64 z] w fun r w' => ∃ v : Value, r = .returned v ∧ SomeQue w' sb rb cap ∧ Kp [sb, rb] w w' :=
  (receive_any z (min (max z 0) l.length).toNat h (by omega) (by omega)).mono fun r w' ⟨_, h1, _, _, h2, h3⟩ => ⟨_, h1, ⟨_, _, h2⟩, h3⟩

/-- The first loop: the tape and one socket. -/
structure Cp1 (w0 w : World) (tb sb rb cap k : Nat) : Prop where
  t : w0.heap.size ≤ tb
  ts : tb < sb
  tr : tb < rb
  tape : Tape w tb k
  que : SomeQue w sb rb cap
  kp : Kp [] w0 w
theorem Cp1.next {w0 w w' : World} {tb sb rb cap k k' : Nat} (h : Cp1 w0 w tb sb rb cap k) (ht : Tape w' tb k') (hk : Kp [tb] w w') : Cp1 w0 w' tb sb rb cap k' := by
  obtain ⟨l, lost, hq⟩ := h.que
  exact ⟨h.t, h.ts, h.tr, ht, ⟨l, lost, hq.kp hk (by have := h.ts; simp; omega) (by have := h.tr; simp; omega)⟩, h.kp.up hk (by simp; exact h.t)⟩
theorem Cp1.sock {w0 w w' : World} {tb sb rb cap k : Nat} (h : Cp1 w0 w tb sb rb cap k) (hq : SomeQue w' sb rb cap) (hk : Kp [sb, rb] w w') : Cp1 w0 w' tb sb rb cap k :=
  ⟨h.t, h.ts, h.tr, h.tape.kp hk (by simp; exact ⟨h.ts, h.tr⟩), hq, h.kp.up hk (by have := h.t; have := h.ts; have := h.tr; simp; omega)⟩

/-- The second loop: the socket, a copy that lies still, a copy that is played with. -/
structure Cp2 (w0 w : World) (tb sb rb s1 r1 s2 r2 cap k : Nat) (l : List Ev) (lost : Bool) : Prop where
  t : w0.heap.size ≤ tb
  ts : tb < sb
  tr : tb < rb
  a1 : sb < s1 ∧ sb < r1 ∧ rb < s1 ∧ rb < r1
  a2 : s1 < s2 ∧ s1 < r2 ∧ r1 < s2 ∧ r1 < r2
  tape : Tape w tb k
  que : Que w sb rb cap l lost
  que1 : Que w s1 r1 cap l lost
  que2 : SomeQue w s2 r2 cap
  kp : Kp [] w0 w
theorem Cp2.next {w0 w w' : World} {tb sb rb s1 r1 s2 r2 cap k k' : Nat} {l : List Ev} {lost : Bool} (h : Cp2 w0 w tb sb rb s1 r1 s2 r2 cap k l lost) (ht : Tape w' tb k') (hk : Kp [tb] w w') : Cp2 w0 w' tb sb rb s1 r1 s2 r2 cap k' l lost := by
  obtain ⟨l2, lost2, hq⟩ := h.que2
  have := h.t; have := h.ts; have := h.tr; have := h.a1; have := h.a2
  exact ⟨h.t, h.ts, h.tr, h.a1, h.a2, ht, h.que.kp hk (by simp; omega) (by simp; omega), h.que1.kp hk (by simp; omega) (by simp; omega), ⟨l2, lost2, hq.kp hk (by simp; omega) (by simp; omega)⟩, h.kp.up hk (by simp; omega)⟩
theorem Cp2.sock {w0 w w' : World} {tb sb rb s1 r1 s2 r2 cap k : Nat} {l : List Ev} {lost : Bool} (h : Cp2 w0 w tb sb rb s1 r1 s2 r2 cap k l lost) (hq : SomeQue w' s2 r2 cap) (hk : Kp [s2, r2] w w') : Cp2 w0 w' tb sb rb s1 r1 s2 r2 cap k l lost := by
  have := h.t; have := h.ts; have := h.tr; have := h.a1; have := h.a2
  exact ⟨h.t, h.ts, h.tr, h.a1, h.a2, h.tape.kp hk (by simp; omega), h.que.kp hk (by simp; omega) (by simp; omega), h.que1.kp hk (by simp; omega) (by simp; omega), hq, h.kp.up hk (by simp; omega)⟩

set_option maxHeartbeats 2000000 in
set_option maxRecDepth 100000 in
theorem socketCopies_walk (a : Option Addr) (n c : Nat) (w : World) (hi : Ints w w.heap.size (.slice a n c)) : Calls Try.prog 6 #[.slice a n c] w fun e w' => e = .returned (.bool true) ∧ Below w.heap.size w w' := by
  have ht0 := tape_new hi
  obtain ⟨w1, hw1⟩ : ∃ w1, w.alloc (.cells #[.slice a n c, .int .i64 0] 26) = w1 := ⟨_, rfl⟩
  rw [hw1] at ht0
  obtain ⟨tb, htb⟩ : ∃ tb, w.heap.size = tb := ⟨_, rfl⟩
  rw [htb] at ht0
  have hk1 : Kp [] w w1 := by rw [← hw1]; exact (Kp.refl [] w).alloc _
  have HN := Lib.hid (next_any tb 0 5 w1 (by omega) (by omega) (by omega) ht0)
  have HB := Lib.hid htb
  have K1 := Lib.hid hk1
  clear ht0 hk1 hi
  go_enter Try.func6, Try.ntmps6
  go_wp2_with fail
  clear hw1 htb
  refine HN.out.mono ?_
  rintro e w2 ⟨r, hr, rfl, ht, hg, -⟩
  have T2 := Lib.hid ht
  have K2 := Lib.hid (K1.out.up (Kp.of_grown hg) (by have := HB.out; simp; omega))
  obtain ⟨cap, hcap⟩ : ∃ cap, r + 1 = cap := ⟨_, rfl⟩
  have hwr : IntKind.i64.wrap (1 + (r : Int)) = (cap : Int) := by rw [IntKind.wrap_i64]; omega
  have hc1 : 1 ≤ cap := by omega
  have hc2 : cap ≤ 256 := by omega
  clear hcap hr ht hg
  go_wp2_with fail
  clear hwr
  refine (new_any cap _ hc1 hc2).mono ?_
  rintro e w3 ⟨sb, rb, rfl, hq, hs1, hs2, hk⟩
  have htl := T2.out.lt
  have hcp : Cp1 w w3 tb sb rb cap 1 := ⟨by rw [HB.out]; exact Nat.le_refl _, by omega, by omega, T2.out.kp hk (by simp), ⟨_, _, hq⟩, K2.out.trans hk⟩
  have C3 := Lib.hid hcp
  clear hq hs1 hs2 hk hcp htl
  go_wp2_with fail
  refine (known_any _).mono ?_
  rintro e w4 ⟨rfl, hk⟩
  have hcp : Cp1 w w4 tb sb rb cap 1 := by
    obtain ⟨l, lost, hq⟩ := C3.out.que
    exact ⟨C3.out.t, C3.out.ts, C3.out.tr, C3.out.tape.kp hk (by simp), ⟨l, lost, hq.kp hk (by simp) (by simp)⟩, C3.out.kp.trans hk⟩
  have C4 := Lib.hid hcp
  clear hk hcp
  go_wp2_with fail
  refine (next_any tb 1 9 _ (by omega) (by omega) (by omega) C4.out.tape).mono ?_
  rintro e w5 ⟨r, hr, rfl, ht, hg, -⟩
  have C5 := Lib.hid (C4.out.next ht (Kp.of_grown hg))
  clear ht hg
  go_wp2_with fail
  go_loopw [6] (fun s6 wx => ∃ i k : Nat, s6 = .int .i64 (i : Int) ∧ k + i ≤ 20 ∧ Cp1 w wx tb sb rb cap k) (fun s6 _ => (intOf s6).toNat)
  case atStart => exact ⟨r, _, rfl, by omega, C5.out⟩
  case round =>
    obtain ⟨i, k, rfl, hki, hC⟩ := hrel
    have CC := Lib.hid hC
    clear hC
    by_cases hlt : 0 < i
    · have hlti : (0 : Int) < (i : Int) := by omega
      have hwi : IntKind.i64.wrap ((i : Int) - 1) = ((i - 1 : Nat) : Int) := by rw [IntKind.wrap_i64]; omega
      go_wp2_with fail
      refine (next_any tb k 4 _ (by omega) (by omega) (by omega) CC.out.tape).mono ?_
      rintro e w6 ⟨r, hr, rfl, ht, hg, -⟩
      have C6 := Lib.hid (CC.out.next ht (Kp.of_grown hg))
      clear ht hg
      by_cases r0 : r = 0
      · subst r0
        go_wp2_with fail
        obtain ⟨l6, lost6, hq6⟩ := C6.out.que
        refine (recv_gen 1 hq6).mono ?_
        rintro e w7 ⟨v7, rfl, hq, hk⟩
        have C7 := Lib.hid (C6.out.sock hq hk)
        clear hq hk hq6
        go_wp2_with fail
        obtain ⟨l7, lost7, hq7⟩ := C7.out.que
        refine (send_gen (i : Int) hq7).mono ?_
        rintro e w8 ⟨c8, rfl, hq, hk⟩
        have C8 := Lib.hid (C7.out.sock hq hk)
        clear hq hk hq7
        go_wp2
        exact ⟨⟨i - 1, _, rfl, by omega, C8.out⟩, by simp [intOf]; omega⟩
      · have hr0 : ((r : Int) == 0) = false := by simp; omega
        have hr0' : ¬ ((r : Int) = 0) := by omega
        go_wp2_with fail
        obtain ⟨l7, lost7, hq7⟩ := C6.out.que
        refine (send_gen (i : Int) hq7).mono ?_
        rintro e w8 ⟨c8, rfl, hq, hk⟩
        have C8 := Lib.hid (C6.out.sock hq hk)
        clear hq hk hq7
        go_wp2
        exact ⟨⟨i - 1, _, rfl, by omega, C8.out⟩, by simp [intOf]; omega⟩
    · have hi0 : i = 0 := by omega
      subst hi0
      have hlti : ¬ ((0 : Int) < 0) := by omega
      obtain ⟨l, lost, hq⟩ := CC.out.que
      have Q0 := Lib.hid hq
      clear hq
      go_wp2_with fail
      refine (copy_any Q0.out).mono ?_
      rintro e w7 ⟨s1, r1, rfl, hq, hs1, hr1, hk⟩
      have Q1 := Lib.hid hq
      have Q0b := Lib.hid (Q0.out.kp hk (by simp) (by simp))
      have KK := Lib.hid hk
      have h7 := Q0.out.lt
      have a1 : sb < s1 ∧ sb < r1 ∧ rb < s1 ∧ rb < r1 := by omega
      have A1 := Lib.hid a1
      clear hq hk a1 h7 hs1 hr1
      go_wp2_with fail
      refine (copy_any Q0b.out).mono ?_
      rintro e w8 ⟨s2, r2, rfl, hq, hs2, hr2, hk⟩
      have h7 := Q1.out.lt
      have h8 := Q0b.out.lt
      have hcp : Cp2 w w8 tb sb rb s1 r1 s2 r2 cap k l lost :=
        ⟨CC.out.t, CC.out.ts, CC.out.tr, A1.out, by omega, (CC.out.tape.kp KK.out (by simp)).kp hk (by simp), Q0b.out.kp hk (by simp) (by simp), Q1.out.kp hk (by simp) (by simp), ⟨_, _, hq⟩, (CC.out.kp.trans KK.out).trans hk⟩
      have D8 := Lib.hid hcp
      clear hq hk h7 h8 hcp hs2 hr2
      go_wp2_with fail
      refine (next_any tb k 6 _ (by omega) (by omega) (by omega) D8.out.tape).mono ?_
      rintro e w9 ⟨r, hr, rfl, ht, hg, -⟩
      have D9 := Lib.hid (D8.out.next ht (Kp.of_grown hg))
      clear ht hg
      go_wp2_with fail
      go_loopw [9] (fun s9 wx => ∃ i k : Nat, s9 = .int .i64 (i : Int) ∧ k + i ≤ 40 ∧ Cp2 w wx tb sb rb s1 r1 s2 r2 cap k l lost) (fun s9 _ => (intOf s9).toNat)
      case atStart => exact ⟨r, _, rfl, by omega, D9.out⟩
      case round =>
        obtain ⟨j, m, rfl, hmj, hD⟩ := hrel
        have DD := Lib.hid hD
        clear hD
        by_cases hlt : 0 < j
        · have hlti : (0 : Int) < (j : Int) := by omega
          have hwi : IntKind.i64.wrap ((j : Int) - 1) = ((j - 1 : Nat) : Int) := by rw [IntKind.wrap_i64]; omega
          have hwj : IntKind.i64.wrap (100 + (j : Int)) = 100 + (j : Int) := by rw [IntKind.wrap_i64]; omega
          go_wp2_with fail
          refine (next_any tb m 3 _ (by omega) (by omega) (by omega) DD.out.tape).mono ?_
          rintro e w10 ⟨r, hr, rfl, ht, hg, -⟩
          have D10 := Lib.hid (DD.out.next ht (Kp.of_grown hg))
          clear ht hg
          go_wp2_with fail
          obtain ⟨l6, lost6, hq6⟩ := D10.out.que2
          refine (recv_gen (r : Int) hq6).mono ?_
          rintro e w11 ⟨v7, rfl, hq, hk⟩
          have D11 := Lib.hid (D10.out.sock hq hk)
          clear hq hk hq6
          go_wp2_with fail
          obtain ⟨l7, lost7, hq7⟩ := D11.out.que2
          refine (send_gen (100 + (j : Int)) hq7).mono ?_
          rintro e w12 ⟨c8, rfl, hq, hk⟩
          have D12 := Lib.hid (D11.out.sock hq hk)
          clear hq hk hq7
          go_wp2_with fail
          obtain ⟨l8, lost8, hq8⟩ := D12.out.que2
          refine (lost_any hq8).mono ?_
          rintro e w13 ⟨rfl, hq, hk, -⟩
          have D13 := Lib.hid (D12.out.sock ⟨_, _, hq⟩ (hk.mono (by simp)))
          clear hq hk hq8
          go_wp2
          exact ⟨⟨j - 1, _, rfl, by omega, D13.out⟩, by simp [intOf]; omega⟩
        · have hj0 : j = 0 := by omega
          subst hj0
          have hlti : ¬ ((0 : Int) < 0) := by omega
          have hA := DD.out.a1
          have HA := Lib.hid hA
          have Q1 := Lib.hid DD.out.que1
          have Q2 := Lib.hid DD.out.que
          have K0 := Lib.hid DD.out.kp
          have htt := Lib.hid (And.intro DD.out.t (And.intro DD.out.ts DD.out.tr))
          clear hA
          go_wp2_with fail
          refine (len_any Q1.out).mono ?_
          rintro e w10 ⟨rfl, rfl⟩
          go_wp2_with fail
          refine (len_any Q2.out).mono ?_
          rintro e w11 ⟨rfl, rfl⟩
          go_wp2_with fail
          refine (lost_any Q1.out).mono ?_
          rintro e w12 ⟨rfl, hq, hk, -⟩
          have Q3 := Lib.hid hq
          have Q4 := Lib.hid (Q2.out.kp hk (by have := HA.out; simp; omega) (by have := HA.out; simp; omega))
          have K1 := Lib.hid (K0.out.up hk (by have := HA.out; have := htt.out; simp; omega))
          clear hq hk
          go_wp2_with fail
          refine (lost_any Q4.out).mono ?_
          rintro e w13 ⟨rfl, hq, hk, -⟩
          have Q5 := Lib.hid hq
          have Q6 := Lib.hid (Q3.out.kp hk (by have := HA.out; simp; omega) (by have := HA.out; simp; omega))
          have K2 := Lib.hid (K1.out.up hk (by have := HA.out; have := htt.out; simp; omega))
          clear hq hk
          obtain ⟨q, hq⟩ : ∃ q, min 9 l.length = q := ⟨_, rfl⟩
          go_wp2_with fail
          refine (receive_any 9 q Q6.out (by omega) (by omega)).mono ?_
          rintro e w14 ⟨g1, rfl, hg1, hh1, hq1, hk⟩
          have Q7 := Lib.hid (Q5.out.kp hk (by have := HA.out; simp; omega) (by have := HA.out; simp; omega))
          have K3 := Lib.hid (K2.out.up hk (by have := HA.out; have := htt.out; simp; omega))
          have H1 := Lib.hid hh1
          have hgl := block_lt hh1
          have hsl := (Q5.out.lt)
          have hg1s : g1 ≠ sb ∧ g1 ≠ rb := by omega
          clear hq1 hk hh1 hsl
          go_wp2_with fail
          refine (receive_any 9 q Q7.out (by omega) (by omega)).mono ?_
          rintro e w15 ⟨g2, rfl, hg2, hh2, hq2, hk⟩
          have hlq : (l.take q).length = q := by rw [List.length_take]; omega
          have E1 : EHas w15 (.slice (some ⟨g1, 0, none⟩) q q) (l.take q) := by
            have := EHas.block (c := q) ((hk.block g1 hgl (by simp; exact hg1s)).trans H1.out)
            rwa [hlq] at this
          have E2 : EHas w15 (.slice (some ⟨g2, 0, none⟩) q q) (l.take q) := by
            have := EHas.block (c := q) hh2
            rwa [hlq] at this
          have K4 := Lib.hid (K3.out.up hk (by have := HA.out; have := htt.out; simp; omega))
          have F1 := Lib.hid E1
          have F2 := Lib.hid E2
          have hq9 : (l.take q).length ≤ 9223372036854775807 := by omega
          clear hq2 hk hh2 E1 E2 hlq hq
          go_wp2_with fail
          refine (same_any hq9 F1.out F2.out).mono ?_
          rintro e w16 ⟨rfl, nn, rfl⟩
          go_wp2
          go_ret
          exact ⟨rfl, (K4.out.drew nn).below (Nat.le_refl _) (by simp)⟩
end Go.Proofs.Ytikjbhjdpamceaa
