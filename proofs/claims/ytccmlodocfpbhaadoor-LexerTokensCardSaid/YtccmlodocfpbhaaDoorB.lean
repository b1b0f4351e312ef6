/- The classes of bytes: classOf, leading, consists. -/
import Derived.Test.YtccmlodocfpbhaaDoorA
import Derived.Lib.OthersKept
import Derived.Lib.IndexBytes
import Derived.Laws.RangeAny
import Derived.Test.YtccmlodocfpbhaaDoorT4
namespace Go.Proofs.YtccmlodocfpbhaaDoor
open Go.RowKit

def clsN (n : Nat) : Nat :=
  if n = 9 then 33 else if n < 32 ∨ 126 < n then 0 else if n = 32 then 49 else if n = 44 then 53 else
  if n = 123 ∨ n = 125 ∨ n = 34 then 17 else if 65 ≤ n ∧ n ≤ 90 then 23 else
  if n = 61 ∨ n = 33 ∨ n = 43 ∨ n = 45 ∨ n = 58 then 29 else 21

set_option maxHeartbeats 1000000 in
set_option maxRecDepth 100000 in
theorem classOf_any (n : Nat) (w : World) : Calls Tryd.prog 35 #[.int .i32 (n : Int)] w fun r w' => r = .returned (.int .i64 (clsN n : Int)) ∧ w = w' := by
  go_enter Tryd.func35, Tryd.ntmps35
  go_wp2
  all_goals go_ret
  all_goals refine ⟨congrArg (fun k : Int => Ending.returned (.int .i64 k)) ?_, rfl⟩
  all_goals simp only [beq_iff_eq, beq_eq_false_iff_ne, ne_eq] at *
  all_goals unfold clsN
  all_goals repeat' split
  all_goals omega

/-- Whether a byte is of one of some classes. -/
def inC (c : Nat) (b : UInt8) : Bool := clsN b.toNat &&& c != 0
theorem forall_u8 {p : UInt8 → Bool} (h : (List.range 256).all (fun n => p (UInt8.ofNat n)) = true) (b : UInt8) : p b = true := by
  have := List.all_eq_true.1 h b.toNat (List.mem_range.2 (UInt8.toNat_lt b))
  simpa using this
theorem inC_line : inC 1 = lnCh := funext fun b => by
  have := forall_u8 (p := fun b => inC 1 b == lnCh b) (by decide +kernel) b
  simpa using this
theorem inC_key : inC 2 = upCh := funext fun b => by
  have := forall_u8 (p := fun b => inC 2 b == upCh b) (by decide +kernel) b
  simpa using this
theorem inC_name : inC 4 = nmCh := funext fun b => by
  have := forall_u8 (p := fun b => inC 4 b == nmCh b) (by decide +kernel) b
  simpa using this
theorem inC_op : inC 8 = opCh := funext fun b => by
  have := forall_u8 (p := fun b => inC 8 b == opCh b) (by decide +kernel) b
  simpa using this
theorem inC_val : inC 16 = prCh := funext fun b => by
  have := forall_u8 (p := fun b => inC 16 b == prCh b) (by decide +kernel) b
  simpa using this
theorem inC_sep : inC 32 = sepCh := funext fun b => by
  have := forall_u8 (p := fun b => inC 32 b == sepCh b) (by decide +kernel) b
  simpa using this
theorem cls_high {n : Nat} (h : 128 ≤ n) : clsN n = 0 := by
  unfold clsN
  rw [if_neg (by omega), if_pos (by omega)]
theorem inC_high {c : Nat} {b : UInt8} (h : 128 ≤ b.toNat) : inC c b = false := by
  unfold inC
  rw [cls_high h]
  simp

/-- How many bytes at the beginning are of some classes. -/
def ledL (c : Nat) (l : List UInt8) : Nat := (l.takeWhile (inC c)).length
theorem takeWhile_at {p : UInt8 → Bool} : ∀ {l : List UInt8} {i : Nat} {x : UInt8}, (l.take i).all p = true → l[i]? = some x → p x = false → (l.takeWhile p).length = i
  | [], _, _, _, h, _ => by simp at h
  | a :: l, 0, x, _, h, hx => by
    simp at h
    subst h
    simp [hx]
  | a :: l, i + 1, x, ha, h, hx => by
    simp only [List.take_succ_cons, List.all_cons, Bool.and_eq_true] at ha
    rw [List.takeWhile_cons, if_pos ha.1, List.length_cons, takeWhile_at ha.2 (by simpa using h) hx]
theorem takeWhile_all {p : UInt8 → Bool} : ∀ {l : List UInt8}, l.all p = true → (l.takeWhile p).length = l.length
  | [], _ => rfl
  | a :: l, h => by
    rw [List.all_cons, Bool.and_eq_true] at h
    rw [List.takeWhile_cons, if_pos h.1, List.length_cons, takeWhile_all h.2]
    rfl
theorem all_take_succ {p : UInt8 → Bool} {l : List UInt8} {i : Nat} {x : UInt8} (h : (l.take i).all p = true) (hx : l[i]? = some x) (hp : p x = true) : (l.take (i + 1)).all p = true := by
  rw [List.take_add_one, hx, List.all_append, h]
  simp [hp]

def clss : List Nat := [1, 2, 4, 8, 16, 32]
theorem cls_mem (n : Nat) : clsN n ∈ [33, 0, 49, 53, 17, 23, 29, 21] := by
  unfold clsN
  repeat' split
  all_goals simp
theorem bits_cls : ∀ k ∈ [33, 0, 49, 53, 17, 23, 29, 21], ∀ c ∈ clss, bits BinOp.and IntKind.i64 ((k : Nat) : Int) ((c : Nat) : Int) = ((k &&& c : Nat) : Int) := by decide +kernel
theorem bits_eq (n c : Nat) (hc : c ∈ clss) : bits BinOp.and IntKind.i64 (clsN n : Int) (c : Int) = ((clsN n &&& c : Nat) : Int) := bits_cls _ (cls_mem n) c hc
theorem bits_inC {b : UInt8} {c : Nat} (hc : c ∈ clss) : (bits BinOp.and IntKind.i64 (clsN b.toNat : Int) (c : Int) == 0) = !inC c b := by
  rw [bits_eq _ _ hc]
  unfold inC
  cases h : clsN b.toNat &&& c with
  | zero => rfl
  | succ k => rfl

set_option maxHeartbeats 1000000 in
set_option maxRecDepth 100000 in
theorem leading_any (s : ByteArray) (c : Nat) (w : World) (hc : c ∈ clss) : Calls Tryd.prog 32 #[.string s, .int .i64 (c : Int)] w fun r w' => r = .returned (.int .i64 (ledL c s.data.toList : Int)) ∧ Kp [] w w' := by
  go_enter Tryd.func32, Tryd.ntmps32
  go_wp2
  go_loopw [5] (fun _ w' => ∃ pos : Nat, w' = w.iter s pos ∧ pos ≤ s.size ∧ (s.data.toList.take pos).all (inC c) = true) (fun _ w' => s.size - w'.iterPos w.heap.size)
  case atStart => exact ⟨0, rfl, by omega, rfl⟩
  case round =>
    obtain ⟨pos, rfl, hle, hall⟩ := hrel
    have HA := Lib.hid hall
    clear hall
    by_cases hp : pos < s.size
    · obtain ⟨x, hx⟩ : ∃ x : UInt8, s[pos]'hp = x := ⟨_, rfl⟩
      have hxl : s.data.toList[pos]? = some x := by rw [← hx]; exact Lib.data_getElem? s pos hp
      have HX := Lib.hid hxl
      clear hxl
      by_cases h8 : x.toNat < 128
      · have hnx : ∀ ty, (Instr.next (.pointer (some ⟨w.heap.size, 0, none⟩)) true ty).run Tryd.prog (w.iter s pos) = _ := fun ty => run_next_ascii w s pos ty hp (by rw [hx]; exact h8)
        rw [hx] at hnx
        have HC := Lib.hid fun W => classOf_any x.toNat W
        go_wp2_with (go_at_call 35; refine (HC.out _).mono ?_; rintro r w' ⟨rfl, rfl⟩)
        · rename_i hb
          rw [bits_inC hc, Bool.not_eq_true'] at hb
          go_ret
          refine ⟨?_, (Kp.refl [] w).alloc _⟩
          rw [show ledL c s.data.toList = pos from takeWhile_at HA.out HX.out hb]
          rfl
        · rename_i hb
          rw [bits_inC hc, Bool.not_eq_false'] at hb
          refine ⟨⟨pos + 1, rfl, by omega, all_take_succ HA.out HX.out hb⟩, ?_⟩
          rw [World.iterPos_iter, World.iterPos_iter]
          omega
      · have hnx : ∀ ty, (Instr.next (.pointer (some ⟨w.heap.size, 0, none⟩)) true ty).run Tryd.prog (w.iter s pos) = _ := fun ty => run_next_any w s pos ty hp
        have hh := (decode_high s pos hp (by rw [hx]; omega)).1
        obtain ⟨m, hm⟩ : ∃ m, (Utf8.decode s pos).1 = m := ⟨_, rfl⟩
        obtain ⟨q, hq⟩ : ∃ q, pos + (Utf8.decode s pos).2 = q := ⟨_, rfl⟩
        rw [hm] at hh hnx
        rw [hq] at hnx
        clear hm hq
        have HC := Lib.hid fun W => classOf_any m W
        have hz : bits BinOp.and IntKind.i64 (clsN m : Int) (c : Int) = 0 := by rw [bits_eq _ _ hc, cls_high hh, Nat.zero_and]; rfl
        have hb : inC c x = false := inC_high (by omega)
        go_wp2_with (go_at_call 35; refine (HC.out _).mono ?_; rintro r w' ⟨rfl, rfl⟩)
        go_ret
        refine ⟨?_, (Kp.refl [] w).alloc _⟩
        rw [show ledL c s.data.toList = pos from takeWhile_at HA.out HX.out hb]
        rfl
    · have hnx : ∀ ty, (Instr.next (.pointer (some ⟨w.heap.size, 0, none⟩)) true ty).run Tryd.prog (w.iter s pos) = _ := fun ty => run_next_end w s pos ty hp
      have hsz := Lib.size_eq s
      have hl : ledL c s.data.toList = s.size := by
        have h := HA.out
        rw [List.take_of_length_le (by omega)] at h
        unfold ledL
        rw [takeWhile_all h, hsz]
      have HL := Lib.hid hl
      clear hl hsz
      go_wp2
      go_ret
      exact ⟨by rw [HL.out]; rfl, (Kp.refl [] w).alloc _⟩

theorem takeWhile_full {p : UInt8 → Bool} : ∀ {l : List UInt8}, ((l.takeWhile p).length == l.length) = l.all p
  | [] => rfl
  | a :: l => by
    have ih := takeWhile_full (p := p) (l := l)
    rw [List.takeWhile_cons, List.all_cons]
    cases h : p a with
    | false => rfl
    | true =>
      rw [Bool.true_and, ← ih]
      simp
set_option maxHeartbeats 1000000 in
set_option maxRecDepth 100000 in
theorem consists_any (s : ByteArray) (c : Nat) (w : World) (hc : c ∈ clss) : Calls Tryd.prog 31 #[.string s, .int .i64 (c : Int)] w fun r w' => r = .returned (.bool (s.data.toList.all (inC c))) ∧ Kp [] w w' := by
  have HL := Lib.hid (leading_any s c w hc)
  have hsz := Lib.size_eq s
  have he : ((ledL c s.data.toList : Int) == (s.size : Int)) = s.data.toList.all (inC c) := by
    rw [hsz, ← takeWhile_full (p := inC c)]
    unfold ledL
    rw [Bool.eq_iff_iff]
    simp only [beq_iff_eq]
    omega
  have HE := Lib.hid he
  clear he hsz
  go_enter Tryd.func31, Tryd.ntmps31
  go_wp2_with (go_at_call 32; refine HL.out.mono ?_; rintro r w' ⟨rfl, hk⟩)
  go_ret
  exact ⟨by rw [← HE.out]; rfl, hk⟩

theorem takeWhile_le (p : UInt8 → Bool) (l : List UInt8) : (l.takeWhile p).length ≤ l.length := (List.takeWhile_sublist p).length_le
theorem span_take (p : UInt8 → Bool) : ∀ l : List UInt8, l.take (l.takeWhile p).length = (spanL p l).1 ∧ l.drop (l.takeWhile p).length = (spanL p l).2
  | [] => ⟨rfl, rfl⟩
  | a :: l => by
    obtain ⟨h1, h2⟩ := span_take p l
    rw [List.takeWhile_cons]
    unfold spanL
    cases h : p a with
    | false => exact ⟨rfl, rfl⟩
    | true =>
      simp only [if_true, List.length_cons, List.take_succ_cons, List.drop_succ_cons, h1, h2]
      exact ⟨trivial, trivial⟩
/-- A text's bytes. -/
def bs (s : List UInt8) : ByteArray := ⟨s.toArray⟩
theorem bs_data (s : List UInt8) : (bs s).data.toList = s := rfl
theorem bs_of (s : ByteArray) : bs s.data.toList = s := by
  unfold bs
  rw [Array.toArray_toList]
theorem bs_size (s : List UInt8) : (bs s).size = s.length := rfl
theorem bs_isEmpty (r : List UInt8) : (bs r).toList.isEmpty = r.isEmpty := by rw [Lib.toList_data, bs_data]
theorem bs_drop (l : List UInt8) (k : Nat) : (bs l).extract k (bs l).size = bs (l.drop k) := by
  apply ByteArray.ext
  rw [ByteArray.data_extract, bs_size]
  apply Array.ext'
  simp [bs]
  rw [List.take_of_length_le (by simp)]
theorem bs_take (l : List UInt8) (k : Nat) : (bs l).extract 0 k = bs (l.take k) := by
  apply ByteArray.ext
  rw [ByteArray.data_extract]
  apply Array.ext'
  simp [bs]

set_option maxHeartbeats 1000000 in
set_option maxRecDepth 100000 in
theorem take_any (l : List UInt8) (c : Nat) (w : World) (hc : c ∈ clss) : Calls Tryd.prog 58 #[.string (bs l), .int .i64 (c : Int)] w fun r w' => r = .returned (.tuple #[.string (bs (spanL (inC c) l).1), .string (bs (spanL (inC c) l).2)]) ∧ Kp [] w w' := by
  have hL := leading_any (bs l) c w hc
  rw [bs_data] at hL
  have hle := takeWhile_le (inC c) l
  have hn : (ledL c l : Int) ≤ ((bs l).size : Int) := by rw [bs_size]; unfold ledL; omega
  have hn2 : ledL c l ≤ (bs l).size := by rw [bs_size]; exact hle
  obtain ⟨s1, s2⟩ := span_take (inC c) l
  have e1 : (bs l).extract 0 (ledL c l) = bs (spanL (inC c) l).1 := by rw [bs_take]; unfold ledL; rw [s1]
  have e2 : (bs l).extract (ledL c l) (bs l).size = bs (spanL (inC c) l).2 := by rw [bs_drop]; unfold ledL; rw [s2]
  have HL := Lib.hid hL
  have E1 := Lib.hid e1
  have E2 := Lib.hid e2
  clear hL e1 e2 s1 s2 hle
  generalize ledL c l = k at *
  go_enter Tryd.func58, Tryd.ntmps58
  go_wp2_with (go_at_call 32; refine HL.out.mono ?_; rintro r w' ⟨rfl, hk⟩)
  go_quiet (fail)
  go_wp2
  go_ret2
  rw [E1.out, E2.out]
  exact ⟨rfl, hk.drew _⟩
end Go.Proofs.YtccmlodocfpbhaaDoor
