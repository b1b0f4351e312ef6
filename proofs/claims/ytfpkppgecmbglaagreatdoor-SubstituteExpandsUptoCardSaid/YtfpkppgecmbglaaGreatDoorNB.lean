
/- Which texts are names, keys, texts: the contracts of package name. -/
import Derived.Test.YtfpkppgecmbglaaGreatDoorNA
namespace Go.Proofs.YtfpkppgecmbglaaGreatDoor.Nm
open Go.RowKit

def isDotsB (l : List UInt8) : Bool := l == [46] || l == [46, 46]

set_option maxHeartbeats 400000 in
set_option maxRecDepth 100000 in
theorem isDots_any (s : ByteArray) (w : World) : Calls Tryz.prog 133 #[.string s] w fun e w' => e = .returned (.bool (isDotsB s.data.toList)) ∧ w' = w := by
  go_enter Tryz.func133, Tryz.ntmps133
  go_wp2
  · have h : s.toList = [46] := by assumption
    rw [Lib.toList_data] at h
    go_ret
    exact ⟨by simp [isDotsB, h], rfl⟩
  · go_ret
    exact ⟨by simp [isDotsB, Lib.toList_data], rfl⟩

/-- Which lists of bytes are names: not empty, of at most 32 bytes, neither "." nor "..", all bytes in S. -/
def nameB (S l : List UInt8) : Bool := !l.isEmpty && decide (l.length ≤ 32) && !isDotsB l && allIn S l

theorem empty_form {s : ByteArray} (h : s.data.toList = []) : s.toList.isEmpty = true := by rw [Lib.toList_data, h]; rfl
theorem nonempty_form {s : ByteArray} (h : s.data.toList ≠ []) : s.toList.isEmpty = false := by
  rw [Lib.toList_data]
  cases hl : s.data.toList with
  | nil => exact absurd hl h
  | cons _ _ => rfl

set_option maxHeartbeats 400000 in
set_option maxRecDepth 100000 in
theorem isName_any (s : ByteArray) (b : Nat) (S : List UInt8) (w : World) (hs : s.size ≤ 4611686018427387904) (hS : SetAt w b S) :
    Calls Tryz.prog 110 #[.string s, .pointer (some ⟨b, 0, none⟩)] w (Draws (.bool (nameB S s.data.toList)) w) := by
  have hsz := Lib.size_eq s
  by_cases h0 : s.data.toList = []
  · have hv : nameB S s.data.toList = false := by simp [nameB, h0]
    have he := empty_form h0
    clear h0 hsz
    have Hv := Lib.hid hv
    clear hv
    go_enter Tryz.func110, Tryz.ntmps110
    go_wp2
    go_ret
    exact ⟨by rw [Hv.out]; rfl, 0, rfl⟩
  · have he := nonempty_form h0
    by_cases hl : s.size ≤ 32
    · have hl' : (s.size : Int) ≤ 32 := by omega
      have hd := isDots_any s w
      cases hq : isDotsB s.data.toList with
      | true =>
        have hv : nameB S s.data.toList = false := by simp [nameB, hq]
        rw [hq] at hd
        clear h0 hsz hq
        have Hv := Lib.hid hv
        clear hv
        go_enter Tryz.func110, Tryz.ntmps110
        go_wp2_with (go_at_call 133; refine hd.mono ?_; rintro e w' ⟨rfl, rfl⟩)
        go_ret
        exact ⟨by rw [Hv.out]; rfl, 0, rfl⟩
      | false =>
        have hv : nameB S s.data.toList = allIn S s.data.toList := by
          have hll : s.data.toList.length ≤ 32 := by rw [← hsz]; exact hl
          have hle : s.data.toList.isEmpty = false := by rw [← Lib.toList_data]; exact he
          unfold nameB
          rw [hq, hle, decide_eq_true hll]
          rfl
        rw [hq] at hd
        clear h0 hsz hq
        have Hv := Lib.hid hv
        clear hv
        have hc := consists_any s b S w hs hS
        have Hc := Lib.hid hc
        clear hc
        have Hd := Lib.hid hd
        clear hd
        go_enter Tryz.func110, Tryz.ntmps110
        go_wp2_with (first
          | (go_at_call 133; refine Hd.out.mono ?_; rintro e w' ⟨rfl, rfl⟩)
          | (go_at_call 58; refine Hc.out.mono ?_; rintro e w' ⟨rfl, n, rfl⟩))
        go_ret
        exact ⟨by rw [Hv.out]; rfl, n, rfl⟩
    · have hl' : ¬ (s.size : Int) ≤ 32 := by omega
      have hv : nameB S s.data.toList = false := by simp [nameB]; intro; omega
      clear h0 hsz
      have Hv := Lib.hid hv
      clear hv
      go_enter Tryz.func110, Tryz.ntmps110
      go_wp2
      go_ret
      exact ⟨by rw [Hv.out]; rfl, 0, rfl⟩

theorem setAt_cells {w : World} {b : Nat} {S : List UInt8} {t : TypeId} {fr : Nat × Nat} (h : w.heap[b]? = some (.cells (Lib.setCells S) t fr)) : SetAt w b S := by
  intro x
  rw [cell_of_row w b _ _ t fr h, Lib.setCells_at]

theorem SetAt.below {w W : World} {b : Nat} {S : List UInt8} (h : SetAt w b S) {B : Nat} (hb : Below B w W) (hB : b < B) : SetAt W b S := fun x =>
  (hb.cell (p := ⟨b, x.toNat, none⟩) hB).trans (h x)

/-- A whole array stored into the block that was made last. -/
theorem wpList_store_new {P : Program} {ops : Array Oper} {rest : List Oper} {o : Oper} {a : Act} {Q : Exit → Act → World → Prop} (w : World) (t : TypeId) (c c' : Array Value) (hgd : o.guard = none) (x y : Operand) (ho : o.op = .store t x y)
    (hx : a.eval x = .pointer (some ⟨w.heap.size, 0, none⟩)) (hy : a.eval y = .agg c') (hi : (P.info? t).map (·.size) = some c'.size) (hc : c.size = c'.size) (h1 : c'.all (·.oneCell') = true)
    (h : wpList P ops Q rest (a.put o.dst undef) (w.alloc (.cells c' t))) : wpList P ops Q (o :: rest) a (w.alloc (.cells c t)) := by
  refine wpList_store_row hgd t x y ho w.heap.size c' hx hy t c (heap_alloc_last w _) hi hc h1 ?_
  rw [World.setRow_alloc_new]
  exact h

theorem sizes_ok (S : List UInt8) : (Array.replicate 256 (Value.bool false)).size = (Lib.setCells S).size := by rw [Lib.setCells_size, Array.size_replicate]

set_option maxHeartbeats 400000 in
set_option maxRecDepth 100000 in
theorem valid_any (s : ByteArray) (w : World) (hs : s.size ≤ 4611686018427387904) :
    Calls Tryz.prog 68 #[.string s] w (Bel (.bool (nameB NameSet s.data.toList)) w) := by
  have hv := (zero_of_info (P := Tryz.prog) info46).1
  have hi := (zero_of_info (P := Tryz.prog) info46).2
  have hi' : (Tryz.prog.info? 95).map (·.size) = some (Lib.setCells NameSet).size := by rw [Lib.setCells_size]; exact hi
  have Hi := Lib.hid hi'
  clear hi'
  go_enter Tryz.func68, Tryz.ntmps68
  go_wp2_with fail
  refine (nameBytes_any _).mono ?_
  rintro e W1 ⟨rfl, hb⟩
  have hn := isName_any s W1.heap.size NameSet (W1.alloc (.cells (Lib.setCells NameSet) 95)) hs (setAt_cells (heap_alloc_last W1 _))
  have Hn := Lib.hid hn
  clear hn
  go_wp2_with (first
    | (refine wpList_store_new W1 95 _ (Lib.setCells NameSet) rfl _ _ rfl rfl rfl Hi.out (sizes_ok _) (Lib.setCells_one _) ?_)
    | (go_at_call 110; refine Hn.out.mono ?_; rintro e w' ⟨rfl, n, rfl⟩))
  go_ret
  exact ⟨rfl, drewN_below (hb.alloc hb.size _) n⟩

theorem forall_u8 {p : UInt8 → Bool} (h : (List.range 256).all (fun n => p (UInt8.ofNat n)) = true) (b : UInt8) : p b = true := by
  have := List.all_eq_true.1 h b.toNat (List.mem_range.2 (UInt8.toNat_lt b))
  simpa using this

theorem cap_iff (b : UInt8) : UpSet.contains b = (decide (65 ≤ (b.toNat : Int)) && decide ((b.toNat : Int) ≤ 90)) := by
  have := forall_u8 (p := fun b => UpSet.contains b == (decide (65 ≤ (b.toNat : Int)) && decide ((b.toNat : Int) ≤ 90))) (by decide +kernel) b
  simpa using this

set_option maxHeartbeats 400000 in
theorem isCapital_any (b : UInt8) (w : World) : Calls Tryz.prog 112 #[.int .u8 (b.toNat : Int)] w fun e w' => e = .returned (.bool (UpSet.contains b)) ∧ w' = w := by
  have hv := cap_iff b
  by_cases h1 : 65 ≤ (b.toNat : Int)
  · by_cases h2 : (b.toNat : Int) ≤ 90
    · rw [hv, decide_eq_true h1, decide_eq_true h2]
      clear hv
      go_enter Tryz.func112, Tryz.ntmps112
      go_wp2
      go_ret
      exact ⟨rfl, rfl⟩
    · rw [hv, decide_eq_true h1, decide_eq_false h2]
      clear hv
      go_enter Tryz.func112, Tryz.ntmps112
      go_wp2
      go_ret
      exact ⟨rfl, rfl⟩
  · rw [hv, decide_eq_false h1, Bool.false_and]
    clear hv
    go_enter Tryz.func112, Tryz.ntmps112
    go_wp2
    go_ret
    exact ⟨rfl, rfl⟩

def keyB : List UInt8 → Bool
  | [] => false
  | c :: r => decide ((c :: r).length ≤ 32) && UpSet.contains c && allIn KeySet (c :: r)

set_option maxHeartbeats 400000 in
set_option maxRecDepth 100000 in
theorem key_any (s : ByteArray) (w : World) (hs : s.size ≤ 4611686018427387904) :
    Calls Tryz.prog 69 #[.string s] w (Bel (.bool (keyB s.data.toList)) w) := by
  have hv := (zero_of_info (P := Tryz.prog) info46).1
  have hi := (zero_of_info (P := Tryz.prog) info46).2
  have hi' : (Tryz.prog.info? 95).map (·.size) = some (Lib.setCells KeySet).size := by rw [Lib.setCells_size]; exact hi
  have Hi := Lib.hid hi'
  clear hi'
  have hsz := Lib.size_eq s
  cases hl : s.data.toList with
  | nil =>
    have he := empty_form hl
    clear hsz hl
    go_enter Tryz.func69, Tryz.ntmps69
    go_wp2_with fail
    refine (keyBytes_any _).mono ?_
    rintro e W1 ⟨rfl, hb⟩
    go_wp2_with (refine wpList_store_new W1 95 _ (Lib.setCells KeySet) rfl _ _ rfl rfl rfl Hi.out (sizes_ok _) (Lib.setCells_one _) ?_)
    go_ret
    exact ⟨rfl, hb.alloc hb.size _⟩
  | cons c r =>
    have he := nonempty_form (s := s) (by rw [hl]; simp)
    have hpos : 0 < s.size := by rw [hsz, hl]; simp
    have hc0 : s[0]'hpos = c := by
      have := Lib.data_getElem? s 0 hpos
      rw [hl] at this
      simp at this
      exact this.symm
    have hkey : keyB (c :: r) = (decide ((c :: r).length ≤ 32) && UpSet.contains c && allIn KeySet (c :: r)) := rfl
    rw [← hl, ← hsz] at hkey
    rw [← hl]
    rw [show keyB s.data.toList = keyB s.data.toList from rfl]
    have hpos' : (0 : Int) < (s.size : Int) := by omega
    have Hl := Lib.hid hl
    clear hl hsz
    by_cases h32 : (s.size : Int) ≤ 32
    · rw [decide_eq_true (by omega)] at hkey
      have hcap := isCapital_any c
      cases hq : UpSet.contains c with
      | false =>
        rw [hq] at hkey hcap
        have Hk := Lib.hid hkey
        clear hkey hq
        have Hcap := Lib.hid hcap
        clear hcap
        go_enter Tryz.func69, Tryz.ntmps69
        go_wp2_with fail
        refine (keyBytes_any _).mono ?_
        rintro e W1 ⟨rfl, hb⟩
        go_wp2_with (first
          | (refine wpList_store_new W1 95 _ (Lib.setCells KeySet) rfl _ _ rfl rfl rfl Hi.out (sizes_ok _) (Lib.setCells_one _) ?_)
          | (go_at_call 112; refine (Hcap.out _).mono ?_; rintro e w' ⟨rfl, rfl⟩))
        go_ret
        exact ⟨by rw [Hk.out]; rfl, hb.alloc hb.size _⟩
      | true =>
        rw [hq] at hkey hcap
        have Hk := Lib.hid hkey
        clear hkey hq
        have Hcap := Lib.hid hcap
        clear hcap
        go_enter Tryz.func69, Tryz.ntmps69
        go_wp2_with fail
        refine (keyBytes_any _).mono ?_
        rintro e W1 ⟨rfl, hb⟩
        have Hn := Lib.hid (consists_any s W1.heap.size KeySet (W1.alloc (.cells (Lib.setCells KeySet) 95)) hs (setAt_cells (heap_alloc_last W1 _)))
        go_wp2_with (first
          | (refine wpList_store_new W1 95 _ (Lib.setCells KeySet) rfl _ _ rfl rfl rfl Hi.out (sizes_ok _) (Lib.setCells_one _) ?_)
          | (go_at_call 112; refine (Hcap.out _).mono ?_; rintro e w' ⟨rfl, rfl⟩)
          | (go_at_call 58; refine Hn.out.mono ?_; rintro e w' ⟨rfl, n, rfl⟩))
        go_ret
        exact ⟨by rw [Hk.out]; rfl, drewN_below (hb.alloc hb.size _) n⟩
    · rw [decide_eq_false (by omega)] at hkey
      have Hk := Lib.hid hkey
      clear hkey
      go_enter Tryz.func69, Tryz.ntmps69
      go_wp2_with fail
      refine (keyBytes_any _).mono ?_
      rintro e W1 ⟨rfl, hb⟩
      go_wp2_with (refine wpList_store_new W1 95 _ (Lib.setCells KeySet) rfl _ _ rfl rfl rfl Hi.out (sizes_ok _) (Lib.setCells_one _) ?_)
      go_ret
      exact ⟨by rw [Hk.out]; rfl, hb.alloc hb.size _⟩
end Go.Proofs.YtfpkppgecmbglaaGreatDoor.Nm
