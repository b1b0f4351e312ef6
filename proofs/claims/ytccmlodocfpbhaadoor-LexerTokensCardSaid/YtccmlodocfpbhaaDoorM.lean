/- known: the examples of the chapter. -/
import Derived.Test.YtccmlodocfpbhaaDoorK
import Derived.Test.YtccmlodocfpbhaaDoorG
namespace Go.Proofs.YtccmlodocfpbhaaDoor
open Go.RowKit

def kl : List UInt8 := [97, 92, 10, 32, 98, 10, 35, 32, 99, 10, 10, 100]
def kt : List UInt8 := [75, 69, 82, 78, 69, 76, 61, 61, 34, 115, 100, 42, 34, 44, 32, 69, 78, 86, 123, 73, 68, 125, 61, 34, 97, 92, 34, 98, 34]
theorem kl_lines : linesL kl = [(1, [97, 32, 98]), (5, [100])] := by
  have e : physL kl = [[97, 92], [32, 98], [35, 32, 99], [], [100]] := by decide
  unfold linesL
  rw [e]
  simp [linesN_cons, contL, endsB, blankL, linesN]
theorem kt_tokens : tokensE kt = ([⟨[75, 69, 82, 78, 69, 76], [], [61, 61], [115, 100, 42]⟩, ⟨[69, 78, 86], [73, 68], [61], [97, 34, 98]⟩], 0) := by
  rfl
/-- What is known of the slices that Lines and Tokens return at these examples. -/
theorem lns2 {w : World} {v : Value} {a b : Ln} (h : lnT.Has w v [a, b]) : ∃ blk o c, v = .slice (some ⟨blk, o, none⟩) 2 c ∧ w.cell? ⟨blk, o, none⟩ = some (.int .i64 (a.1 : Int)) ∧ w.cell? ⟨blk, o + 1, none⟩ = some (.string (bs a.2)) ∧ w.cell? ⟨blk, o + 2, none⟩ = some (.int .i64 (b.1 : Int)) ∧ w.cell? ⟨blk, o + 3, none⟩ = some (.string (bs b.2)) := by
  rcases h with ⟨_, _, _, hn⟩ | ⟨blk, o, c, rfl, _, hr⟩
  · cases hn
  · have h0 := lnRow hr (j := 0) rfl
    have h1 := lnRow hr (j := 1) rfl
    exact ⟨blk, o, c, rfl, h0.1, h0.2, h1.1, h1.2⟩
theorem toks2 {w : World} {v : Value} {a b : Tok} (h : tokT.Has w v [a, b]) : ∃ blk o c, v = .slice (some ⟨blk, o, none⟩) 2 c ∧ w.cell? ⟨blk, o + 4, none⟩ = some (.string (bs b.key)) ∧ w.cell? ⟨blk, o + 5, none⟩ = some (.string (bs b.name)) ∧ w.cell? ⟨blk, o + 6, none⟩ = some (.string (bs b.op)) ∧ w.cell? ⟨blk, o + 7, none⟩ = some (.string (bs b.val)) := by
  rcases h with ⟨_, _, _, hn⟩ | ⟨blk, o, c, rfl, _, hr⟩
  · cases hn
  · have h1 := tokRow hr (j := 1) rfl
    exact ⟨blk, o, c, rfl, h1.1, h1.2.1, h1.2.2.1, h1.2.2.2⟩
theorem eq_ln (a : Int) (p : ByteArray) (W : World) : (binOp .eql 53 (.agg #[.int .i64 a, .string p]) (.agg #[.int .i64 a, .string p])).run Tryd.prog W = .ok (.bool true) W := by
  have hS : Tryd.prog.underlying 53 = some (.struct (Tryd.prog.fieldsOf 53)) := by kernel_rfl
  have hp : Tryd.prog.stoodInHeld 53 = false := by kernel_rfl
  have u3 := Tryd.underlying3
  have u9 := Tryd.underlying9
  have a3 := Tryd.isAgg3
  have a9 := Tryd.isAgg9
  have z3 := Tryd.sizeOf3
  have z9 := Tryd.sizeOf9
  rw [run_eql_struct, show (10000 : Nat) = 9999 + 1 from rfl, run_equalIn_agg W 9999 53 _ _ hS hp]
  simp only [Program.fieldsOf, Tryd.underlying53]
  go_simp
theorem eq_tok (k n o v : ByteArray) (W : World) : (binOp .eql 43 (.agg #[.string k, .string n, .string o, .string v]) (.agg #[.string k, .string n, .string o, .string v])).run Tryd.prog W = .ok (.bool true) W := by
  have hS : Tryd.prog.underlying 43 = some (.struct (Tryd.prog.fieldsOf 43)) := by kernel_rfl
  have hp : Tryd.prog.stoodInHeld 43 = false := by kernel_rfl
  have u9 := Tryd.underlying9
  have a9 := Tryd.isAgg9
  have z9 := Tryd.sizeOf9
  rw [run_eql_struct, show (10000 : Nat) = 9999 + 1 from rfl, run_equalIn_agg W 9999 43 _ _ hS hp]
  simp only [Program.fieldsOf, Tryd.underlying43]
  go_simp

set_option maxHeartbeats 2000000 in
set_option maxRecDepth 100000 in
theorem known_any (w : World) (hm : Max w) : Calls Tryd.prog 10 #[] w fun r w' => r = .returned (.bool true) ∧ Kp [] w w' := by
  have hL := lines_any kl w hm (by decide)
  rw [kl_lines] at hL
  have HL := Lib.hid hL
  have HT := Lib.hid fun W (h : Kp [] w W) => tokens_any kt W (hm.kp h (by simp)) (by decide)
  rw [kt_tokens] at HT
  have e1 := fun W => eq_ln 1 ⟨#[97, 32, 98]⟩ W
  have e2 := fun W => eq_tok ⟨#[69, 78, 86]⟩ ⟨#[73, 68]⟩ ⟨#[61]⟩ ⟨#[97, 34, 98]⟩ W
  clear hL hm
  go_enter Tryd.func10, Tryd.ntmps10
  go_wp2_with (first
    | (go_at_call 12; refine Calls.mono (by exact HL.out) ?_; rintro r w1 ⟨v, rfl, hown, hk⟩; have HK1 := Lib.hid hk; have HO1 := Lib.hid hown.has; clear hown hk)
    | (go_at_call 15; refine Calls.mono (by exact HT.out _ HK1.out) ?_; rintro r w2 ⟨v2, rfl, hown, hk⟩; have HK2 := Lib.hid (HK1.out.trans hk); have hh1 := lns2 (HO1.out.kp0 hk); have hh2 := toks2 hown.has; clear hown hk; obtain ⟨b1, o1, c1, rfl, c10, c11, c12, c13⟩ := hh1; obtain ⟨b2, o2, c2, rfl, c20, c21, c22, c23⟩ := hh2; replace c10 : _ = some (Value.int .i64 1) := c10; replace c11 : _ = some (Value.string ⟨#[97, 32, 98]⟩) := c11; replace c12 : _ = some (Value.int .i64 5) := c12; replace c20 : _ = some (Value.string ⟨#[69, 78, 86]⟩) := c20; replace c21 : _ = some (Value.string ⟨#[73, 68]⟩) := c21; replace c22 : _ = some (Value.string ⟨#[61]⟩) := c22; replace c23 : _ = some (Value.string ⟨#[97, 34, 98]⟩) := c23))
  go_ret
  exact ⟨rfl, HK2.out⟩
end Go.Proofs.YtccmlodocfpbhaaDoor
