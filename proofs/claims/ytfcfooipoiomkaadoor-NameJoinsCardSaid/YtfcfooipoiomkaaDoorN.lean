/- Join: the project's and the reference's. -/
import Derived.Test.YtfcfooipoiomkaaDoorZ
import Derived.Test.YtfcfooipoiomkaaDoorLCompares
namespace Go.Proofs.YtfcfooipoiomkaaDoor
open Go.RowKit

/-- v is a slice with these texts, which came in. -/
structure Texts (w : World) (b o c : Nat) (ss : List ByteArray) : Prop where
  cell : ∀ (j : Nat) x, ss[j]? = some x → w.cell? ⟨b, o + j, none⟩ = some (.string x)
  lt : b < w.heap.size
  cap : ss.length ≤ c
theorem Texts.below {w W : World} {b o c : Nat} {ss : List ByteArray} (h : Texts w b o c ss) (hb : Below w.heap.size w W) : Texts W b o c ss :=
  ⟨fun j x hx => (hb.cell (p := ⟨b, o + j, none⟩) h.lt).trans (h.cell j x hx), Nat.lt_of_lt_of_le h.lt hb.size, h.cap⟩

def lists (ss : List ByteArray) : List (List UInt8) := ss.map fun x => x.data.toList
def names (ss : List ByteArray) : Bool := ss.all fun x => nameB NameSet x.data.toList

def joined (ss : List ByteArray) : ByteArray := ⟨(joinP 47 (lists ss)).toArray⟩
def pathOf (ss : List ByteArray) : ByteArray := ⟨#[47]⟩ ++ joined ss
theorem joined_list (ss : List ByteArray) : (joined ss).data.toList = joinP 47 (lists ss) := rfl
theorem pathOf_list (ss : List ByteArray) : (pathOf ss).data.toList = 47 :: joinP 47 (lists ss) := by
  unfold pathOf
  rw [ByteArray.data_append, Array.toList_append, joined_list]
  rfl

theorem libJoin_any (b o c : Nat) (ss : List ByteArray) (w : World) (h0 : ss ≠ []) (hT : Texts w b o c ss) (hn : ss.length ≤ 1000000) (hJ : (joined ss).size ≤ 1000000) :
    Calls Tryd.prog 53 #[.slice (some ⟨b, o, none⟩) ss.length c, .string ⟨#[47]⟩] w (Bel (.string (joined ss)) w) := by
  cases ss with
  | nil => exact absurd rfl h0
  | cons x K =>
    have h := Tryd.strings_Join b o c (x :: K) ⟨#[47]⟩ w hT.cell hT.lt (by omega) hT.cap (by rw [List.map_cons, show (⟨#[47]⟩ : ByteArray).data.toList = [47] from rfl, lib_join, ← List.map_cons (f := fun x : ByteArray => x.data.toList)]; exact Nat.le_trans (show (joinP 47 _).length ≤ 1000000 from hJ) (by decide))
    rw [List.map_cons, show (⟨#[47]⟩ : ByteArray).data.toList = [47] from rfl, lib_join, ← List.map_cons (f := fun x : ByteArray => x.data.toList)] at h
    exact h

set_option maxHeartbeats 1000000 in
set_option maxRecDepth 100000 in
theorem nameJoin_any (b o c : Nat) (ss : List ByteArray) (w : World) (h0 : ss ≠ []) (hT : Texts w b o c ss) (hn : ss.length ≤ 1000000) (hJ : (joined ss).size ≤ 1000000) (hx : ∀ x ∈ ss, x.size ≤ 1000000) :
    Calls Tryd.prog 26 #[.slice (some ⟨b, o, none⟩) ss.length c] w fun e w' => Below w.heap.size w w' ∧
      ((names ss = true ∧ e = .returned (.tuple #[.string (pathOf ss), .int .i64 0])) ∨ (names ss = false ∧ e = .returned (.tuple #[.string ⟨#[]⟩, .int .i64 10]))) := by
  have hv := (zero_of_info (P := Tryd.prog) info46).1
  have hi := (zero_of_info (P := Tryd.prog) info46).2
  have hi' : (Tryd.prog.info? 46).map (·.size) = some (Lib.setCells NameSet).size := by rw [Lib.setCells_size]; exact hi
  have Hi := Lib.hid hi'
  clear hi'
  have Hlj := Lib.hid fun W hT => libJoin_any b o c ss W h0 hT hn hJ
  unfold pathOf
  generalize joined ss = J at *
  have hpos : 0 < ss.length := List.length_pos_iff.2 h0
  have hposz : (0 : Int) < (ss.length : Int) := by omega
  go_enter Tryd.func26, Tryd.ntmps26
  go_wp2_with fail
  refine (nameBytes_any _).mono ?_
  rintro e W1 ⟨rfl, hb⟩
  go_wp2_with (refine wpList_store_new W1 46 _ (Lib.setCells NameSet) rfl _ _ rfl rfl rfl Hi.out (sizes_ok _) (Lib.setCells_one _) ?_)
  obtain ⟨W2, hW2⟩ : ∃ W2, W2 = W1.alloc (.cells (Lib.setCells NameSet) 46) := ⟨_, rfl⟩
  have hS : SetAt W2 W1.heap.size NameSet := by rw [hW2]; exact setAt_cells (heap_alloc_last W1 _)
  have hb2 : Below w.heap.size w W2 := by rw [hW2]; exact hb.alloc hb.size _
  have hT2 := hT.below hb2
  rw [← hW2]
  have HS := Lib.hid hS
  have HT := Lib.hid hT2
  have Hx := Lib.hid hx
  have Hb := Lib.hid hb2
  clear hW2 hS hb2 hT2 hT hb hx h0
  go_loopw [13] (fun s13 wx => ∃ i : Nat, i ≤ ss.length ∧ s13 = .int .i64 i ∧ names (ss.take i) = true ∧ ∃ n, wx = W2.drewN n) (fun s13 _ => ss.length - (intOf s13).toNat)
  case atStart => exact ⟨0, by omega, rfl, rfl, 0, rfl⟩
  case round =>
    obtain ⟨i, hi, rfl, ha, n, rfl⟩ := hrel
    have Ha := Lib.hid ha
    clear ha
    by_cases hlt : i < ss.length
    · have hiz : (i : Int) < (ss.length : Int) := by omega
      obtain ⟨x, hxi⟩ : ∃ x, ss[i]? = some x := ⟨_, List.getElem?_eq_getElem hlt⟩
      have hcell := HT.out.cell i x hxi
      have hcell' : (W2.drewN n).cell? ⟨b, o + i, none⟩ = some (.string x) := hcell
      have hxm := List.mem_of_getElem? hxi
      have hxs := Hx.out x hxm
      have hv := isName_any x W1.heap.size NameSet (W2.drewN n) (by omega) HS.out
      cases hnm : nameB NameSet x.data.toList with
      | false =>
        have hr : names ss = false := by
          unfold names
          rw [List.all_eq_false]
          exact ⟨x, hxm, by rw [hnm]; exact Bool.false_ne_true⟩
        rw [hnm] at hv
        have Hv := Lib.hid hv
        have Hr := Lib.hid hr
        clear hv hnm hxi hxm hr
        go_wp2_with fail
        refine Hv.out.mono ?_
        rintro e w3 ⟨rfl, n2, rfl⟩
        go_wp2
        go_ret2
        exact ⟨drewN_below Hb.out _, .inr ⟨Hr.out, rfl⟩⟩
      | true =>
        have hg : names (ss.take (i + 1)) = true := by
          unfold names
          rw [List.take_add_one, hxi]
          simp only [Option.toList]
          rw [List.all_append, show (ss.take i).all (fun x => nameB NameSet x.data.toList) = true from Ha.out]
          simp [hnm]
        rw [hnm] at hv
        have Hv := Lib.hid hv
        have Hg := Lib.hid hg
        clear hv hnm hxi hxm hg
        go_wp2_with fail
        refine Hv.out.mono ?_
        rintro e w3 ⟨rfl, n2, rfl⟩
        go_wp2
        exact ⟨⟨i + 1, by omega, by go_num, Hg.out, n + n2, rfl⟩, by simp [intOf]; omega⟩
    · have h : ss.take i = ss := List.take_of_length_le (by omega)
      rw [h] at Ha
      have hj := Hlj.out (W2.drewN n) ⟨HT.out.cell, HT.out.lt, HT.out.cap⟩
      have Hj := Lib.hid hj
      clear hj h
      go_wp2_with fail
      refine Hj.out.mono ?_
      rintro e w3 ⟨rfl, hb3⟩
      go_wp2
      go_ret2
      exact ⟨belT (drewN_below Hb.out n) hb3, .inl ⟨Ha.out, rfl⟩⟩

set_option maxRecDepth 100000 in
theorem refJoin_any (b o c : Nat) (ss : List ByteArray) (w : World) (h0 : ss ≠ []) (hT : Texts w b o c ss) (hn : ss.length ≤ 1000000) (hJ : (joined ss).size ≤ 1000000) :
    Calls Tryd.prog 27 #[.slice (some ⟨b, o, none⟩) ss.length c] w (Bel (.string (pathOf ss)) w) := by
  have Hj := Lib.hid (libJoin_any b o c ss w h0 hT hn hJ)
  unfold pathOf
  generalize joined ss = J at *
  go_enter Tryd.func27, Tryd.ntmps27
  go_wp2_with fail
  refine Hj.out.mono ?_
  rintro e w3 ⟨rfl, hb3⟩
  go_wp2
  go_ret
  exact ⟨rfl, hb3⟩

theorem nameJoin_none (a : Option Addr) (c : Nat) (w : World) : Calls Tryd.prog 26 #[.slice a 0 c] w fun e w' => e = .returned (.tuple #[.string ⟨#[]⟩, .int .i64 10]) ∧ w' = w := by
  go_enter Tryd.func26, Tryd.ntmps26
  go_wp2
  go_ret2
  exact ⟨rfl, rfl⟩
end Go.Proofs.YtfcfooipoiomkaaDoor
