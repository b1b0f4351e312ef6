/- The example of the chapter. -/
import Derived.Test.YtikjbhjdpamceaaD
import Derived.Test.YtikjbhjdpamceaaF
namespace Go.Proofs.Ytikjbhjdpamceaa
open Go.RowKit

/-- The event of a number. -/
def evn (n : Int) : Ev := ⟨n, 0, 0, ByteArray.empty, ByteArray.empty⟩
theorem sendn_full {w : World} {sb rb cap : Nat} {l : List Ev} {lost : Bool} (n : Int) (h : Que w sb rb cap l lost) (hl : l.length = cap) :
    Calls Try.prog 16 #[.pointer (some ⟨sb, 0, none⟩), .agg #[.int .i64 n, .int .i64 0, .int .i64 0, .string ByteArray.empty, .string ByteArray.empty]] w fun r w' => r = .returned (.int .i64 61) ∧ Que w' sb rb cap l true ∧ Kp [sb] w w' :=
  send_full (evn n) h hl
theorem sendn_any {w : World} {sb rb cap : Nat} {l : List Ev} {lost : Bool} (n : Int) (h : Que w sb rb cap l lost) (hl : l.length < cap) :
    Calls Try.prog 16 #[.pointer (some ⟨sb, 0, none⟩), .agg #[.int .i64 n, .int .i64 0, .int .i64 0, .string ByteArray.empty, .string ByteArray.empty]] w fun r w' => r = .returned (.int .i64 0) ∧ Que w' sb rb cap (l ++ [evn n]) lost ∧ Kp [sb, rb] w w' :=
  send_any (evn n) h hl

set_option maxHeartbeats 1000000 in
set_option maxRecDepth 100000 in
theorem known_any (w : World) : Calls Try.prog 10 #[] w fun e w' => e = .returned (.bool true) ∧ Kp [] w w' := by
  have H0 := Lib.hid (new_any 2 w (by omega) (by omega))
  go_enter Try.func10, Try.ntmps10
  go_wp2_with fail
  refine H0.out.mono ?_
  rintro e w1 ⟨sb, rb, rfl, hq, hs1, hs2, hk1⟩
  have Q0 := Lib.hid hq
  have K1 := Lib.hid hk1
  clear hq hk1
  go_wp2_with fail
  refine (sendn_any 1 Q0.out (by simp)).mono ?_
  rintro e w2 ⟨rfl, hq, hk⟩
  have Q1 := Lib.hid hq
  have K2 := Lib.hid (K1.out.up hk (by simp; omega))
  clear hq hk
  go_wp2_with fail
  refine (sendn_any 2 Q1.out (by simp)).mono ?_
  rintro e w3 ⟨rfl, hq, hk⟩
  have Q2 := Lib.hid hq
  have K3 := Lib.hid (K2.out.up hk (by simp; omega))
  clear hq hk
  go_wp2_with fail
  refine (sendn_full 3 Q2.out (by simp)).mono ?_
  rintro e w4 ⟨rfl, hq, hk⟩
  have Q3 := Lib.hid hq
  have K4 := Lib.hid (K3.out.up hk (by simp; omega))
  clear hq hk
  go_wp2_with fail
  refine (receive_any 1 1 Q3.out (by simp) (by simp; omega)).mono ?_
  rintro e w5 ⟨g, rfl, hg, hh, hq, hk⟩
  have Q4 := Lib.hid hq
  have K5 := Lib.hid (K4.out.up hk (by simp; omega))
  have c0 := (row5 (p := 0) (sp := []) (y := evn 1) (by rw [List.append_nil]; exact hh) rfl).1
  rw [Nat.zero_mul] at c0
  have c0' : w5.cell? ⟨g, 0, none⟩ = some (.int .i64 1) := c0
  clear hq hk hh c0
  go_wp2_with fail
  refine (sendn_any 4 Q4.out (by simp)).mono ?_
  rintro e w6 ⟨rfl, hq, hk⟩
  have Q5 := Lib.hid hq
  have K6 := Lib.hid (K5.out.up hk (by simp; omega))
  clear hq hk
  go_wp2_with fail
  refine (lost_any Q5.out).mono ?_
  rintro e w7 ⟨rfl, hq, hk, _⟩
  have Q6 := Lib.hid hq
  have K7 := Lib.hid (K6.out.up hk (by simp; omega))
  clear hq hk
  go_wp2_with fail
  refine (lost_any Q6.out).mono ?_
  rintro e w8 ⟨rfl, hq, hk, _⟩
  have Q7 := Lib.hid hq
  have K8 := Lib.hid (K7.out.up hk (by simp; omega))
  clear hq hk
  go_wp2_with fail
  refine (len_any Q7.out).mono ?_
  rintro e w9 ⟨rfl, rfl⟩
  go_wp2
  go_ret
  exact ⟨rfl, K8.out⟩
end Go.Proofs.Ytikjbhjdpamceaa
