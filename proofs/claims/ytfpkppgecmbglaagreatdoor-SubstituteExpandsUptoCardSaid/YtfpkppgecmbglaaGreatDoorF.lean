/- spellings, kindOf. -/
import Derived.Test.YtfpkppgecmbglaaGreatDoorE
namespace Go.Proofs.YtfpkppgecmbglaaGreatDoor
open Go.RowKit
def spL : List (List UInt8 × List UInt8) := [([], []), ([], [])] ++ ([2, 3, 4, 5, 6, 7, 8, 9, 10].map fun k => (36 :: wordOf k, [37, letterOf k])) ++ [(36 :: wordOf 11, [])]
def spA : Array Value := #[.string ⟨#[]⟩, .string ⟨#[]⟩, .string ⟨#[]⟩, .string ⟨#[]⟩, .string ⟨#[36, 107, 101, 114, 110, 101, 108]⟩, .string ⟨#[37, 107]⟩, .string ⟨#[36, 110, 117, 109, 98, 101, 114]⟩, .string ⟨#[37, 110]⟩, .string ⟨#[36, 100, 101, 118, 112, 97, 116, 104]⟩, .string ⟨#[37, 112]⟩, .string ⟨#[36, 105, 100]⟩, .string ⟨#[37, 98]⟩, .string ⟨#[36, 100, 114, 105, 118, 101, 114]⟩, .string ⟨#[37, 100]⟩, .string ⟨#[36, 97, 116, 116, 114]⟩, .string ⟨#[37, 115]⟩, .string ⟨#[36, 101, 110, 118]⟩, .string ⟨#[37, 69]⟩, .string ⟨#[36, 114, 101, 115, 117, 108, 116]⟩, .string ⟨#[37, 99]⟩, .string ⟨#[36, 112, 97, 114, 101, 110, 116]⟩, .string ⟨#[37, 80]⟩, .string ⟨#[36, 110, 97, 109, 101]⟩, .string ⟨#[]⟩]
theorem sp_hi : (Tryz.prog.info? 106).map (·.size) = some spA.size := by kernel_rfl
theorem sp_one : spA.all (fun v => v.oneCell') = true := by kernel_rfl
set_option maxRecDepth 100000 in
set_option maxHeartbeats 1000000 in
theorem spellings_any (w : World) : Calls Tryz.prog 70 #[] w fun e w' => e = .returned (.agg spA) ∧ w' = w.alloc (.cells spA 106) := by
  have HI := Lib.hid sp_hi
  have HO := Lib.hid sp_one
  go_enter Tryz.func70, Tryz.ntmps70
  go_wp2_with (refine Nm.wpList_store_new w 106 _ spA rfl _ _ rfl ?_ ?_ ?_ ?_ ?_ ?_; (case refine_1 => simp [Act.eval]); (case refine_2 => simp [Act.eval, spA]); (case refine_3 => exact HI.out); (case refine_4 => simp [spA]); (case refine_5 => exact HO.out))
  exact bodyPost_ret (v := .agg spA) (results_cell_row rfl _ _ w.heap.size 106 _ _ _ rfl (heap_alloc_last w _) Tryz.underlying106 rfl HI.out) rfl ⟨rfl, rfl⟩
def mS (s : List UInt8) (i : Nat) : Bool := match spL[i]? with
  | some x => s == x.1 || s == x.2
  | none => false
/-- The kind of pieces that begin like this, or 0. -/
def kindS (s : List UInt8) : Nat := ((List.range 12).find? (mS s)).getD 0
theorem kindS_at {s : List UInt8} {i : Nat} (hi : i < 12) (h : mS s i = true) (hn : ∀ j, j < i → mS s j = false) : kindS s = i := by
  have e : (List.range 12).find? (mS s) = some i := by
    rw [List.find?_eq_some_iff_getElem]
    refine ⟨h, i, by simpa using hi, by simp, fun j hj => ?_⟩
    simp [hn j hj]
  unfold kindS
  rw [e]
  rfl
theorem kindS_no {s : List UInt8} (hn : ∀ j, j < 12 → mS s j = false) : kindS s = 0 := by
  have e : (List.range 12).find? (mS s) = none := by
    rw [List.find?_eq_none]
    intro j hj
    simp [hn j (List.mem_range.1 hj)]
  unfold kindS
  rw [e]
  rfl
theorem find_congr {p q : Nat → Bool} : ∀ {l : List Nat}, (∀ k ∈ l, p k = q k) → l.find? p = l.find? q
  | [], _ => rfl
  | a :: l, h => by
    rw [List.find?_cons, List.find?_cons, h a (by simp), find_congr fun k hk => h k (by simp [hk])]
theorem kindS_word (w : List UInt8) : kindS (36 :: w) = kindOfWord w := by
  unfold kindS kindOfWord
  have h0 : mS (36 :: w) 0 = false := by simp [mS, spL]
  have h1 : mS (36 :: w) 1 = false := by simp [mS, spL]
  rw [show List.range 12 = 0 :: 1 :: [2, 3, 4, 5, 6, 7, 8, 9, 10, 11] from rfl, List.find?_cons, h0, List.find?_cons, h1]
  simp only
  congr 1
  refine find_congr fun k hk => ?_
  have e : ∀ v : List UInt8, ((36 :: w : List UInt8) == 36 :: v) = (v == w) := fun v => by
    rw [Bool.eq_iff_iff, beq_iff_eq, beq_iff_eq]
    simp [eq_comm]
  simp only [List.mem_cons, List.not_mem_nil, or_false] at hk
  rcases hk with rfl | rfl | rfl | rfl | rfl | rfl | rfl | rfl | rfl | rfl <;> (simp only [mS, spL]; simp [e, letterOf, wordOf]; try rw [eq_comm])
theorem kindS_letter (c : UInt8) : kindS [37, c] = kindOfLetter c := by
  unfold kindS kindOfLetter
  have h0 : mS [37, c] 0 = false := by simp [mS, spL]
  have h1 : mS [37, c] 1 = false := by simp [mS, spL]
  have h2 : mS [37, c] 11 = false := by simp [mS, spL]
  rw [show List.range 12 = 0 :: 1 :: ([2, 3, 4, 5, 6, 7, 8, 9, 10] ++ [11]) from rfl, List.find?_cons, h0, List.find?_cons, h1]
  simp only
  rw [List.find?_append, show [11].find? (mS [37, c]) = none by simp [h2], Option.or_none]
  congr 1
  refine find_congr fun k hk => ?_
  simp only [List.mem_cons, List.not_mem_nil, or_false] at hk
  rcases hk with rfl | rfl | rfl | rfl | rfl | rfl | rfl | rfl | rfl <;> (simp [mS, spL, letterOf, wordOf]; exact Bool.eq_iff_iff.2 (by rw [beq_iff_eq, beq_iff_eq]; exact eq_comm))
theorem kindS_one : kindS [37] = 0 := by decide +kernel
end Go.Proofs.YtfpkppgecmbglaaGreatDoor
