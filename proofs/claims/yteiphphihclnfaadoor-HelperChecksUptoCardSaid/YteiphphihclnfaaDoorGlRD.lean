/- The reference's set. -/
import Derived.Test.YteiphphihclnfaaDoorGlRB
namespace Go.Proofs.YteiphphihclnfaaDoor.Gl
open Go.RowKit

theorem info66 : (Tryd.prog.info? 93).map (fun i => (i.zero, i.size)) = some (some (.agg (Array.replicate 128 (.bool false))), 128) := by kernel_rfl
theorem zero128 : Array.replicate 128 (Value.bool false) = boolRow fun _ => false := by
  apply Array.ext_getElem?
  intro i
  by_cases hi : i < 128
  · rw [boolRow_get _ i hi]
    simp [hi]
  · rw [Array.getElem?_eq_none (by simp; omega), Array.getElem?_eq_none (by rw [boolRow_size]; omega)]

/-- An element's row: star, literal, the set. -/
def elRow (st li : Bool) (S : UInt8 → Bool) : Array Value := #[.bool st, .bool li] ++ boolRow S
theorem elRow_size (st li : Bool) (S : UInt8 → Bool) : (elRow st li S).size = 130 := by simp [elRow, boolRow_size]

theorem low_none (S : UInt8 → Bool) (N : Bool) : (fun x : UInt8 => decide (32 ≤ x.toNat) && decide (x.toNat < 32) && (S x != N)) = fun _ => false := by
  funext x
  have : (decide (32 ≤ x.toNat) && decide (x.toNat < 32)) = false := by
    rw [Bool.and_eq_false_iff, decide_eq_false_iff_not, decide_eq_false_iff_not]
    omega
  rw [this, Bool.false_and]
theorem low_succ (S : UInt8 → Bool) (N : Bool) (c : Nat) (h : 32 ≤ c) (h2 : c < 128) : (fun x : UInt8 => if x = UInt8.ofNat c then (S (UInt8.ofNat c) != N) else decide (32 ≤ x.toNat) && decide (x.toNat < c) && (S x != N)) = fun x : UInt8 => decide (32 ≤ x.toNat) && decide (x.toNat < c + 1) && (S x != N) := by
  funext x
  by_cases hx : x = UInt8.ofNat c
  · have hn : x.toNat = c := by rw [hx]; simp; omega
    rw [if_pos hx, ← hx, decide_eq_true (by omega : 32 ≤ x.toNat), decide_eq_true (by omega : x.toNat < c + 1)]
    rfl
  · have hn : x.toNat ≠ c := fun e => hx (UInt8.toNat_inj.1 (by rw [e]; simp; omega))
    rw [if_neg hx]
    congr 2
    rw [decide_eq_decide]
    omega
theorem boolRow_put (S : UInt8 → Bool) (c : Nat) (b : Bool) (h : c < 128) : (boolRow S).setIfInBounds c (.bool b) = boolRow (fun x => if x = UInt8.ofNat c then b else S x) := by
  apply Array.ext_getElem?
  intro i
  rw [Array.getElem?_setIfInBounds]
  by_cases hi : i < 128
  · rw [boolRow_get (fun x => if x = UInt8.ofNat c then b else S x) i hi]
    by_cases hc : c = i
    · subst hc
      rw [if_pos rfl, if_pos (by rw [boolRow_size]; exact h), if_pos rfl]
    · rw [if_neg hc, boolRow_get _ i hi, if_neg]
      intro e
      have := congrArg UInt8.toNat e
      simp at this
      omega
  · have hn : ∀ T : UInt8 → Bool, (boolRow T)[i]? = none := fun T => Array.getElem?_eq_none (by rw [boolRow_size]; omega)
    rw [hn, if_neg (by omega), hn]
theorem elRow_put (st li : Bool) (S : UInt8 → Bool) (c : Nat) (b : Bool) (h : c < 128) : (elRow st li S).setIfInBounds (2 + c) (.bool b) = elRow st li (fun x => if x = UInt8.ofNat c then b else S x) := by
  unfold elRow
  rw [Array.setIfInBounds_append_right (by simp), ← boolRow_put S c b h]
  congr 2
  simp

theorem elRow_get (st li : Bool) (S : UInt8 → Bool) (c : Nat) (h : c < 128) : (elRow st li S)[2 + c]? = some (.bool (S (UInt8.ofNat c))) := by
  unfold elRow
  rw [Array.getElem?_append_right (by simp), ← boolRow_get S c h]
  congr 1
  simp

theorem rangeB_self (a : UInt8) : rangeB a a = fun x => x == a := by
  funext x
  unfold rangeB
  rw [Bool.eq_iff_iff]
  simp only [Bool.and_eq_true, decide_eq_true_eq, beq_iff_eq]
  constructor
  · intro h
    exact UInt8.toNat_inj.1 (by omega)
  · rintro rfl
    omega
theorem row_one (S : UInt8 → Bool) (a : UInt8) (h : a.toNat < 128) : (boolRow S).setIfInBounds a.toNat (.bool true) = boolRow (fun x => S x || rangeB a a x) := by
  rw [boolRow_set S a.toNat h, rangeB_self]
  simp
theorem low_range (S : UInt8 → Bool) (a : UInt8) : (fun x : UInt8 => S x || (decide (a.toNat ≤ x.toNat) && decide (x.toNat < a.toNat))) = S := by
  funext x
  have : (decide (a.toNat ≤ x.toNat) && decide (x.toNat < a.toNat)) = false := by
    rw [Bool.and_eq_false_iff, decide_eq_false_iff_not, decide_eq_false_iff_not]
    omega
  rw [this, Bool.or_false]
theorem low_range_succ (S : UInt8 → Bool) (a : UInt8) (j : Nat) (h : a.toNat ≤ j) (h2 : j < 128) : (boolRow fun x : UInt8 => S x || (decide (a.toNat ≤ x.toNat) && decide (x.toNat < j))).setIfInBounds j (.bool true) = boolRow fun x : UInt8 => S x || (decide (a.toNat ≤ x.toNat) && decide (x.toNat < j + 1)) := by
  rw [boolRow_set _ j h2]
  congr 1
  funext x
  by_cases hx : x = UInt8.ofNat j
  · have hn : x.toNat = j := by rw [hx]; simp; omega
    rw [beq_iff_eq.2 hx, decide_eq_true (by omega : a.toNat ≤ x.toNat), decide_eq_true (by omega : x.toNat < j + 1)]
    simp
  · have hn : x.toNat ≠ j := fun e => hx (UInt8.toNat_inj.1 (by rw [e]; simp; omega))
    rw [beq_eq_false_iff_ne.2 hx, Bool.or_false]
    congr 2
    rw [decide_eq_decide]
    omega
theorem high_range (S : UInt8 → Bool) (a c : UInt8) : (fun x : UInt8 => S x || (decide (a.toNat ≤ x.toNat) && decide (x.toNat < c.toNat + 1))) = fun x => S x || rangeB a c x := by
  funext x
  unfold rangeB
  congr 2
  rw [decide_eq_decide]
  omega

def SetPost (E : Nat) (r : List UInt8) (i : Nat) (w : World) (e : Ending) (w' : World) : Prop := Below E w w' ∧ match setR r with
  | none => e = .returned (.tuple #[.int .i64 0, .bool false])
  | some (S, k) => e = .returned (.tuple #[.int .i64 ((i + k : Nat) : Int), .bool true]) ∧ w'.heap[E]? = some (.cells (elRow false false S) 95 (0, 0))

set_option maxHeartbeats 1000000 in
set_option maxRecDepth 100000 in
theorem set_nil (p : ByteArray) (i E : Nat) (w : World) (hi : i = p.size) (hE : E < w.heap.size) :
    Calls Tryd.prog 58 #[.string p, .int .i64 (i : Int), .pointer (some ⟨E, 0, none⟩)] w (SetPost E (p.data.toList.drop i) i w) := by
  have hv := (zero_of_info (P := Tryd.prog) info66).1
  subst hi
  have hpost : ∀ w', Below E w w' → SetPost E (p.data.toList.drop p.size) p.size w (.returned (.tuple #[.int .i64 0, .bool false])) w' := fun w' hb => by
    have : p.data.toList.drop p.size = [] := by rw [Lib.size_eq, List.drop_length]
    rw [this]
    exact ⟨hb, rfl⟩
  have Hp := Lib.hid hpost
  clear hpost
  go_enter Tryd.func58, Tryd.ntmps58
  go_wp2
  go_loopw [1, 11] (fun s1 s11 wx => s1 = .int .i64 (p.size : Int) ∧ Below E w wx) (fun _ _ _ => 0)
  case atStart => exact ⟨rfl, (Below.refl E w).alloc (by omega) _⟩
  case round =>
    obtain ⟨rfl, hb⟩ := hrel
    have Hb := Lib.hid hb
    clear hb
    go_wp2
    go_ret2
    exact Hp.out _ Hb.out

set_option maxHeartbeats 4000000 in
set_option maxRecDepth 100000 in
theorem set_bang (p : ByteArray) (i E : Nat) (w : World) (hp : p.size ≤ 600) (ht : p.data.toList.all isText = true) (hi : i < p.size) (hE : E < w.heap.size) (hEb : w.heap[E]? = some (.cells (elRow false false fun _ => false) 95 (0, 0)))
    (c : UInt8) (hc : p[i]'hi = c) (hN : (c == 33) = true) (Q : Ending → World → Prop) (T : Option (UInt8 → Bool)) (D : Nat) (hT : memR (fun _ => false) (p.data.toList.drop (i + 1)) = T) (hD : (p.data.toList.drop (i + 1)).contains 93 = true → D = (i + 1) + (p.data.toList.drop (i + 1)).idxOf 93)
    (q1 : T = none ∨ (p.data.toList.drop (i + 1))[0]? = some 93 → ∀ w', Below E w w' → Q (.returned (.tuple #[.int .i64 0, .bool false])) w')
    (q2 : ∀ S, T = some S → (p.data.toList.drop (i + 1))[0]? ≠ some 93 → ∀ w', Below E w w' → w'.heap[E]? = some (.cells (elRow false false fun x => isText x && (S x != true)) 95 (0, 0)) → Q (.returned (.tuple #[.int .i64 (D : Int), .bool true])) w') :
    Calls Tryd.prog 58 #[.string p, .int .i64 (i : Int), .pointer (some ⟨E, 0, none⟩)] w Q := by
  have hv := (zero_of_info (P := Tryd.prog) info66).1
  have hii : (i : Int) < (p.size : Int) := by omega
  have hpi : (p.size : Int) ≤ 600 := by omega
  have hcq : ((c.toNat : Int) == 33) = true := by
    rw [← hN, Bool.eq_iff_iff]
    simp only [beq_iff_eq]
    constructor
    · intro h
      apply UInt8.toNat_inj.1
      show c.toNat = 33
      omega
    · rintro rfl
      rfl
  have Q1 := Lib.hid q1
  have Q2 := Lib.hid q2
  have HT := Lib.hid hT
  have HD := Lib.hid hD
  have Ht := Lib.hid ht
  have HEb := Lib.hid hEb
  clear q1 q2 hT hD ht hEb hN
  go_enter Tryd.func58, Tryd.ntmps58
  go_wp2
  go_loopw [1, 11] (fun s1 s11 wx => ∃ (k : Nat) (S : UInt8 → Bool), k ≤ p.size ∧ (i + 1) ≤ k ∧ s1 = .int .i64 k ∧ memR S (p.data.toList.drop k) = T ∧ ((p.data.toList.drop k).contains 93 = true → D = k + (p.data.toList.drop k).idxOf 93) ∧ ((p.data.toList.drop (i + 1)).contains 93 = (p.data.toList.drop k).contains 93) ∧ (k = (i + 1) ∨ (p.data.toList.drop (i + 1))[0]? ≠ some 93) ∧ wx.heap[w.heap.size]? = some (.cells (boolRow S) 93 (0, 0)) ∧ Below w.heap.size w wx ∧ wx.heap.size = w.heap.size + 1) (fun s1 _ _ => p.size - (intOf s1).toNat)
  case atStart => exact ⟨(i + 1), fun _ => false, by omega, Nat.le_refl _, rfl, HT.out, HD.out, rfl, Or.inl rfl, by rw [← zero128]; exact heap_alloc_last w _, (Below.refl _ _).alloc (Nat.le_refl _) _, by simp⟩
  case round =>
    obtain ⟨k, S, hk, hFk, rfl, hmem, hidx, hcon, hfst, hrow, hbel, hsize⟩ := hrel
    have Hmem := Lib.hid hmem
    have Hidx := Lib.hid hidx
    have Hcon := Lib.hid hcon
    have Hfst := Lib.hid hfst
    have Hrow := Lib.hid hrow
    have Hbel := Lib.hid hbel
    have Hsize := Lib.hid hsize
    clear hmem hidx hcon hfst hrow hbel hsize
    by_cases hlt : (k : Int) < (p.size : Int)
    · obtain ⟨a, ha⟩ : ∃ a : UInt8, p[k]'(by omega) = a := ⟨_, rfl⟩
      have hal : p.data.toList[k]? = some a := by rw [← ha]; exact Lib.data_getElem? p k (by omega)
      have hdr := drop_at8 hal
      have hat : isText a = true := List.all_eq_true.1 Ht.out a (List.mem_of_getElem? hal)
      have Hal := Lib.hid hal
      have Hdr := Lib.hid hdr
      have Hat := Lib.hid hat
      clear hal hdr hat
      by_cases h93 : a = 93
      · have hq : ((a.toNat : Int) != 93) = false := by rw [h93]; rfl
        subst h93
        have hTS : T = some S := by rw [← Hmem.out, Hdr.out, memR_end]
        have hDk : D = k := by
          have := Hidx.out (by rw [Hdr.out]; simp)
          rw [Hdr.out, List.idxOf_cons_self] at this
          exact this
        have HTS := Lib.hid hTS
        have HDk := Lib.hid hDk
        clear hTS hDk
        by_cases hkF : k = (i + 1)
        · have hq1 := Q1.out (Or.inr (by rw [← hkF, Hdr.out]; rfl))
          have Hq := Lib.hid hq1
          have Hb := Lib.hid (Hbel.out.mono (Nat.le_of_lt hE))
          have hkq : ((k : Int) == (((i + 1) : Nat) : Int)) = true := by rw [hkF]; simp
          push_cast at hkq
          clear hq1 hkF
          go_wp2
          exact Hq.out _ Hb.out
        · have hf : (p.data.toList.drop (i + 1))[0]? ≠ some 93 := by
            rcases Hfst.out with h | h
            · exact absurd h hkF
            · exact h
          have hkq : ((k : Int) == (((i + 1) : Nat) : Int)) = false := by
            rw [beq_eq_false_iff_ne]
            intro h
            exact hkF (by omega)
          push_cast at hkq
          have hdk : decide (p.size ≤ k) = false := decide_eq_false (by omega)
          have Hq := Lib.hid (Q2.out S HTS.out hf)
          clear hf
          go_wp2
          go_loopw [12] (fun s12 wx => ∃ c : Nat, 32 ≤ c ∧ c ≤ 127 ∧ s12 = .int .i64 c ∧ wx.heap[E]? = some (.cells (elRow false false fun x => decide (32 ≤ x.toNat) && decide (x.toNat < c) && (S x != true)) 95 (0, 0)) ∧ wx.heap[w.heap.size]? = some (.cells (boolRow S) 93 (0, 0)) ∧ Below E w wx) (fun s12 _ => 127 - (intOf s12).toNat)
          case atStart => exact ⟨32, Nat.le_refl _, by omega, rfl, by rw [Hbel.out.block E hE, HEb.out, low_none], Hrow.out, Hbel.out.mono (Nat.le_of_lt hE)⟩
          case round =>
            obtain ⟨x, hx1, hx2, rfl, hEr, hBr, hb⟩ := hrel
            have HEr := Lib.hid hEr
            have HBr := Lib.hid hBr
            have Hb := Lib.hid hb
            clear hEr hBr hb
            by_cases hle : (x : Int) ≤ 126
            · have hxi : (x : Int) < 128 := by omega
              have hcell := cell_of_row _ w.heap.size x _ _ _ HBr.out
              rw [boolRow_get S x (by omega)] at hcell
              have hfz := frozen_of_row _ E (2 + x) _ _ HEr.out
              have hcellE := cell_of_row _ E (2 + x) _ _ _ HEr.out
              rw [elRow_get _ _ _ x (by omega)] at hcellE
              have hset := elRow_put false false (fun y => decide (32 ≤ y.toNat) && decide (y.toNat < x) && (S y != true)) x (S (UInt8.ofNat x) != true) (by omega)
              rw [low_succ S true x hx1 (by omega)] at hset
              have Hset := Lib.hid hset
              have hxn : ¬ (x : Int) < 0 := by omega
              have hBE : E ≠ w.heap.size := by omega
              clear hset
              generalize S (UInt8.ofNat x) = b at *
              go_wp2
              go_region
              all_goals
                go_wp2
                refine ⟨⟨x + 1, by omega, by omega, rfl, ?_, ?_, ?_⟩, by simp [intOf]; omega⟩
                · have e := block_setCell4 (i := 2 + x) HEr.out (.bool (b != true))
                  rw [Hset.out] at e
                  cases b <;> exact e
                · show (wr.setCell _ _).heap[w.heap.size]? = _
                  simp only [World.setCell, Array.getElem?_modify]
                  rw [if_neg hBE]
                  exact HBr.out
                · exact ((Hb.out.setCell (Nat.le_refl _) _).trans ⟨rfl, rfl, rfl, Nat.le_refl _, fun _ _ => rfl⟩)
            · obtain rfl : x = 127 := by omega
              have hrowE : wr.heap[E]? = some (.cells (elRow false false fun x => isText x && (S x != true)) 95 (0, 0)) := by
                rw [HEr.out]
                congr 3
                funext x
                unfold isText
                congr 2
                rw [decide_eq_decide]
                omega
              have Hfin := Lib.hid (Hq.out _ Hb.out hrowE)
              rw [HDk.out] at Hfin
              clear hrowE
              go_wp2
              exact Hfin.out
      · have hq : ((a.toNat : Int) != 93) = true := by
          rw [bne_iff_ne]
          intro h
          exact h93 (UInt8.toNat_inj.1 (by show a.toNat = 93; omega))
        have ha127 : a.toNat ≤ 126 := by
          have := Hat.out
          unfold isText at this
          simp only [Bool.and_eq_true, decide_eq_true_eq] at this
          exact this.2
        have hai : (a.toNat : Int) < 128 := by omega
        have hn : ((p.data.toList.drop (k + 1)).contains 93 = true → D = k + 1 + (p.data.toList.drop (k + 1)).idxOf 93) ∧ ((p.data.toList.drop (i + 1)).contains 93 = (p.data.toList.drop (k + 1)).contains 93) ∧ (k + 1 = (i + 1) ∨ (p.data.toList.drop (i + 1))[0]? ≠ some 93) := by
          refine ⟨fun h => ?_, ?_, ?_⟩
          · have := Hidx.out (by rw [Hdr.out, contains_cons_ne h93]; exact h)
            rw [Hdr.out, idx_cons_ne h93] at this
            omega
          · rw [Hcon.out, Hdr.out, contains_cons_ne h93]
          · rcases Hfst.out with h | h
            · right
              rw [← h, Hdr.out]
              simpa using h93
            · exact Or.inr h
        have Hn := Lib.hid hn
        have hcell := cell_of_row _ w.heap.size a.toNat _ _ _ Hrow.out
        rw [boolRow_get S a.toNat (by omega)] at hcell
        have hfz := frozen_of_row _ w.heap.size a.toNat _ _ Hrow.out
        clear hn
        by_cases h2 : (k : Int) + 2 < (p.size : Int)
        · obtain ⟨b, hb1⟩ : ∃ b : UInt8, p[k + 1]'(by omega) = b := ⟨_, rfl⟩
          obtain ⟨c2, hc2⟩ : ∃ c2 : UInt8, p[k + 2]'(by omega) = c2 := ⟨_, rfl⟩
          have hbl : p.data.toList[k + 1]? = some b := by rw [← hb1]; exact Lib.data_getElem? p (k + 1) (by omega)
          have hcl : p.data.toList[k + 2]? = some c2 := by rw [← hc2]; exact Lib.data_getElem? p (k + 2) (by omega)
          have hd1 := drop_at8 hbl
          have hd2 := drop_at8 hcl
          rw [show k + 1 + 1 = k + 2 from rfl] at hd1
          rw [show k + 2 + 1 = k + 3 from rfl] at hd2
          have hct : isText c2 = true := List.all_eq_true.1 Ht.out c2 (List.mem_of_getElem? hcl)
          have hc126 : c2.toNat ≤ 126 := by
            unfold isText at hct
            simp only [Bool.and_eq_true, decide_eq_true_eq] at hct
            exact hct.2
          have Hd1 := Lib.hid hd1
          have Hd2 := Lib.hid hd2
          have h1i : (k : Int) + 1 < (p.size : Int) := by omega
          clear hbl hcl hd1 hd2 hct
          by_cases h45 : b = 45
          · have hq45 : ((b.toNat : Int) == 45) = true := by rw [h45]; rfl
            by_cases hc93 : c2 = 93
            · have hqc : ((c2.toNat : Int) != 93) = false := by rw [hc93]; rfl
              have Hone := Lib.hid (memR_one S h93 (p.data.toList.drop (k + 1)) (fun h => h.2.2 (by rw [Hd1.out, Hd2.out, hc93]; rfl)))
              clear h45 hc93 h93
              go_wp2
              refine ⟨⟨k + 1, fun x => S x || rangeB a a x, by omega, by omega, rfl, by rw [← Hone.out, ← Hdr.out]; exact Hmem.out, Hn.out.1, Hn.out.2.1, Hn.out.2.2, ?_, Hbel.out.setCell (Nat.le_refl _) _, by rw [World.size_setCell]; exact Hsize.out⟩, by simp [intOf]; omega⟩
              have e := block_setCell4 (i := a.toNat) Hrow.out (.bool true)
              rw [row_one S a (by omega)] at e
              exact e
            · have hqc : ((c2.toNat : Int) != 93) = true := by
                rw [bne_iff_ne]
                intro h
                exact hc93 (UInt8.toNat_inj.1 (by show c2.toNat = 93; omega))
              have hrg := memR_range S h93 hc93 (p.data.toList.drop (k + 3))
              rw [← Hd2.out, ← h45, ← Hd1.out, ← Hdr.out, Hmem.out] at hrg
              by_cases hgt : (c2.toNat : Int) < (a.toNat : Int)
              · rw [if_pos (by omega)] at hrg
                have Hq := Lib.hid (Q1.out (Or.inl hrg))
                have Hb := Lib.hid (Hbel.out.mono (Nat.le_of_lt hE))
                clear hrg h45 hc93 h93 hcell hfz
                go_wp2
                go_quiet (fail)
                go_wp2
                exact Hq.out _ ⟨Hb.out.os, Hb.out.tape, Hb.out.output, Hb.out.size, Hb.out.block⟩
              · rw [if_neg (by omega)] at hrg
                have hn3 : ((p.data.toList.drop (k + 3)).contains 93 = true → D = k + 3 + (p.data.toList.drop (k + 3)).idxOf 93) ∧ ((p.data.toList.drop (i + 1)).contains 93 = (p.data.toList.drop (k + 3)).contains 93) ∧ (k + 3 = (i + 1) ∨ (p.data.toList.drop (i + 1))[0]? ≠ some 93) := by
                  obtain ⟨n1, n2, n3⟩ := Hn.out
                  have hb93 : b ≠ 93 := by rw [h45]; decide
                  refine ⟨fun h => ?_, ?_, ?_⟩
                  · have := n1 (by rw [Hd1.out, contains_cons_ne hb93, Hd2.out, contains_cons_ne hc93]; exact h)
                    rw [Hd1.out, idx_cons_ne hb93, Hd2.out, idx_cons_ne hc93] at this
                    omega
                  · rw [n2, Hd1.out, contains_cons_ne hb93, Hd2.out, contains_cons_ne hc93]
                  · rcases n3 with h | h
                    · rcases Hfst.out with h' | h'
                      · omega
                      · exact Or.inr h'
                    · exact Or.inr h
                have Hn3 := Lib.hid hn3
                have Hrg := Lib.hid hrg
                have hle : (a.toNat : Int) ≤ (c2.toNat : Int) := by omega
                clear hrg hn3 h45 hc93 h93 hcell hfz
                go_wp2
                go_quiet (fail)
                go_wp2
                go_loopw [11] (fun s11 wx => ∃ j : Nat, a.toNat ≤ j ∧ j ≤ c2.toNat + 1 ∧ s11 = .int .i64 j ∧ wx.heap[w.heap.size]? = some (.cells (boolRow fun x => S x || (decide (a.toNat ≤ x.toNat) && decide (x.toNat < j))) 93 (0, 0)) ∧ Below w.heap.size w wx ∧ wx.heap.size = w.heap.size + 1) (fun s11 _ => c2.toNat + 1 - (intOf s11).toNat)
                case atStart => exact ⟨a.toNat, Nat.le_refl _, by omega, rfl, by rw [low_range]; exact Hrow.out, ⟨Hbel.out.os, Hbel.out.tape, Hbel.out.output, Hbel.out.size, Hbel.out.block⟩, Hsize.out⟩
                case round =>
                  obtain ⟨j, hj1, hj2, rfl, hjr, hjb, hjs⟩ := hrel
                  have Hjr := Lib.hid hjr
                  have Hjb := Lib.hid hjb
                  have Hjs := Lib.hid hjs
                  clear hjr hjb hjs
                  by_cases hjle : (j : Int) ≤ (c2.toNat : Int)
                  · have hj128 : (j : Int) < 128 := by omega
                    have hcell := cell_of_row _ w.heap.size j _ _ _ Hjr.out
                    rw [boolRow_get _ j (by omega)] at hcell
                    have hfz := frozen_of_row _ w.heap.size j _ _ Hjr.out
                    go_wp2
                    refine ⟨⟨j + 1, by omega, by omega, rfl, ?_, Hjb.out.setCell (Nat.le_refl _) _, by rw [World.size_setCell]; exact Hjs.out⟩, by simp [intOf]; omega⟩
                    have e := block_setCell4 (i := j) Hjr.out (.bool true)
                    rw [low_range_succ S a j hj1 (by omega)] at e
                    exact e
                  · obtain rfl : j = c2.toNat + 1 := by omega
                    have hjr := Hjr.out
                    rw [high_range] at hjr
                    have Hjr := Lib.hid hjr
                    clear hjr
                    go_wp2
                    exact ⟨⟨k + 3, fun x => S x || rangeB a c2 x, by omega, by omega, rfl, Hrg.out.symm, Hn3.out.1, Hn3.out.2.1, Hn3.out.2.2, Hjr.out, Hjb.out, Hjs.out⟩, by simp [intOf]; omega⟩
          · have hq45 : ((b.toNat : Int) == 45) = false := byte_ne (x := b) (k := 45) (by omega) h45
            have Hone := Lib.hid (memR_one S h93 (p.data.toList.drop (k + 1)) (fun h => h45 (by have := h.2.1; rw [Hd1.out] at this; simpa using this)))
            clear h45 h93
            go_wp2
            refine ⟨⟨k + 1, fun x => S x || rangeB a a x, by omega, by omega, rfl, by rw [← Hone.out, ← Hdr.out]; exact Hmem.out, Hn.out.1, Hn.out.2.1, Hn.out.2.2, ?_, Hbel.out.setCell (Nat.le_refl _) _, by rw [World.size_setCell]; exact Hsize.out⟩, by simp [intOf]; omega⟩
            have e := block_setCell4 (i := a.toNat) Hrow.out (.bool true)
            rw [row_one S a (by omega)] at e
            exact e
        · have hlen : ¬ 2 ≤ (p.data.toList.drop (k + 1)).length := by rw [List.length_drop, ← Lib.size_eq]; omega
          have Hone := Lib.hid (memR_one S h93 (p.data.toList.drop (k + 1)) (fun h => hlen h.1))
          clear hlen h93
          go_wp2
          refine ⟨⟨k + 1, fun x => S x || rangeB a a x, by omega, by omega, rfl, by rw [← Hone.out, ← Hdr.out]; exact Hmem.out, Hn.out.1, Hn.out.2.1, Hn.out.2.2, ?_, Hbel.out.setCell (Nat.le_refl _) _, by rw [World.size_setCell]; exact Hsize.out⟩, by simp [intOf]; omega⟩
          have e := block_setCell4 (i := a.toNat) Hrow.out (.bool true)
          rw [row_one S a (by omega)] at e
          exact e
    · obtain rfl : k = p.size := by omega
      have hnone : T = none := by rw [← Hmem.out, Lib.size_eq, List.drop_length]; rfl
      have Hq := Lib.hid (Q1.out (Or.inl hnone))
      have hb : Below E w wr := Hbel.out.mono (by omega)
      have Hb := Lib.hid hb
      clear hb hnone
      go_wp2
      exact Hq.out _ Hb.out

set_option maxHeartbeats 4000000 in
set_option maxRecDepth 100000 in
theorem set_plain (p : ByteArray) (i E : Nat) (w : World) (hp : p.size ≤ 600) (ht : p.data.toList.all isText = true) (hi : i < p.size) (hE : E < w.heap.size) (hEb : w.heap[E]? = some (.cells (elRow false false fun _ => false) 95 (0, 0)))
    (c : UInt8) (hc : p[i]'hi = c) (hN : (c == 33) = false) (Q : Ending → World → Prop) (T : Option (UInt8 → Bool)) (D : Nat) (hT : memR (fun _ => false) (p.data.toList.drop i) = T) (hD : (p.data.toList.drop i).contains 93 = true → D = i + (p.data.toList.drop i).idxOf 93)
    (q1 : T = none ∨ (p.data.toList.drop i)[0]? = some 93 → ∀ w', Below E w w' → Q (.returned (.tuple #[.int .i64 0, .bool false])) w')
    (q2 : ∀ S, T = some S → (p.data.toList.drop i)[0]? ≠ some 93 → ∀ w', Below E w w' → w'.heap[E]? = some (.cells (elRow false false fun x => isText x && (S x != false)) 95 (0, 0)) → Q (.returned (.tuple #[.int .i64 (D : Int), .bool true])) w') :
    Calls Tryd.prog 58 #[.string p, .int .i64 (i : Int), .pointer (some ⟨E, 0, none⟩)] w Q := by
  have hv := (zero_of_info (P := Tryd.prog) info66).1
  have hii : (i : Int) < (p.size : Int) := by omega
  have hpi : (p.size : Int) ≤ 600 := by omega
  have hcq : ((c.toNat : Int) == 33) = false := by
    rw [← hN, Bool.eq_iff_iff]
    simp only [beq_iff_eq]
    constructor
    · intro h
      apply UInt8.toNat_inj.1
      show c.toNat = 33
      omega
    · rintro rfl
      rfl
  have Q1 := Lib.hid q1
  have Q2 := Lib.hid q2
  have HT := Lib.hid hT
  have HD := Lib.hid hD
  have Ht := Lib.hid ht
  have HEb := Lib.hid hEb
  clear q1 q2 hT hD ht hEb hN
  go_enter Tryd.func58, Tryd.ntmps58
  go_wp2
  go_loopw [1, 11] (fun s1 s11 wx => ∃ (k : Nat) (S : UInt8 → Bool), k ≤ p.size ∧ i ≤ k ∧ s1 = .int .i64 k ∧ memR S (p.data.toList.drop k) = T ∧ ((p.data.toList.drop k).contains 93 = true → D = k + (p.data.toList.drop k).idxOf 93) ∧ ((p.data.toList.drop i).contains 93 = (p.data.toList.drop k).contains 93) ∧ (k = i ∨ (p.data.toList.drop i)[0]? ≠ some 93) ∧ wx.heap[w.heap.size]? = some (.cells (boolRow S) 93 (0, 0)) ∧ Below w.heap.size w wx ∧ wx.heap.size = w.heap.size + 1) (fun s1 _ _ => p.size - (intOf s1).toNat)
  case atStart => exact ⟨i, fun _ => false, by omega, Nat.le_refl _, rfl, HT.out, HD.out, rfl, Or.inl rfl, by rw [← zero128]; exact heap_alloc_last w _, (Below.refl _ _).alloc (Nat.le_refl _) _, by simp⟩
  case round =>
    obtain ⟨k, S, hk, hFk, rfl, hmem, hidx, hcon, hfst, hrow, hbel, hsize⟩ := hrel
    have Hmem := Lib.hid hmem
    have Hidx := Lib.hid hidx
    have Hcon := Lib.hid hcon
    have Hfst := Lib.hid hfst
    have Hrow := Lib.hid hrow
    have Hbel := Lib.hid hbel
    have Hsize := Lib.hid hsize
    clear hmem hidx hcon hfst hrow hbel hsize
    by_cases hlt : (k : Int) < (p.size : Int)
    · obtain ⟨a, ha⟩ : ∃ a : UInt8, p[k]'(by omega) = a := ⟨_, rfl⟩
      have hal : p.data.toList[k]? = some a := by rw [← ha]; exact Lib.data_getElem? p k (by omega)
      have hdr := drop_at8 hal
      have hat : isText a = true := List.all_eq_true.1 Ht.out a (List.mem_of_getElem? hal)
      have Hal := Lib.hid hal
      have Hdr := Lib.hid hdr
      have Hat := Lib.hid hat
      clear hal hdr hat
      by_cases h93 : a = 93
      · have hq : ((a.toNat : Int) != 93) = false := by rw [h93]; rfl
        subst h93
        have hTS : T = some S := by rw [← Hmem.out, Hdr.out, memR_end]
        have hDk : D = k := by
          have := Hidx.out (by rw [Hdr.out]; simp)
          rw [Hdr.out, List.idxOf_cons_self] at this
          exact this
        have HTS := Lib.hid hTS
        have HDk := Lib.hid hDk
        clear hTS hDk
        by_cases hkF : k = i
        · have hq1 := Q1.out (Or.inr (by rw [← hkF, Hdr.out]; rfl))
          have Hq := Lib.hid hq1
          have Hb := Lib.hid (Hbel.out.mono (Nat.le_of_lt hE))
          have hkq : ((k : Int) == ((i : Nat) : Int)) = true := by rw [hkF]; simp
          push_cast at hkq
          clear hq1 hkF
          go_wp2
          exact Hq.out _ Hb.out
        · have hf : (p.data.toList.drop i)[0]? ≠ some 93 := by
            rcases Hfst.out with h | h
            · exact absurd h hkF
            · exact h
          have hkq : ((k : Int) == ((i : Nat) : Int)) = false := by
            rw [beq_eq_false_iff_ne]
            intro h
            exact hkF (by omega)
          push_cast at hkq
          have hdk : decide (p.size ≤ k) = false := decide_eq_false (by omega)
          have Hq := Lib.hid (Q2.out S HTS.out hf)
          clear hf
          go_wp2
          go_loopw [12] (fun s12 wx => ∃ c : Nat, 32 ≤ c ∧ c ≤ 127 ∧ s12 = .int .i64 c ∧ wx.heap[E]? = some (.cells (elRow false false fun x => decide (32 ≤ x.toNat) && decide (x.toNat < c) && (S x != false)) 95 (0, 0)) ∧ wx.heap[w.heap.size]? = some (.cells (boolRow S) 93 (0, 0)) ∧ Below E w wx) (fun s12 _ => 127 - (intOf s12).toNat)
          case atStart => exact ⟨32, Nat.le_refl _, by omega, rfl, by rw [Hbel.out.block E hE, HEb.out, low_none], Hrow.out, Hbel.out.mono (Nat.le_of_lt hE)⟩
          case round =>
            obtain ⟨x, hx1, hx2, rfl, hEr, hBr, hb⟩ := hrel
            have HEr := Lib.hid hEr
            have HBr := Lib.hid hBr
            have Hb := Lib.hid hb
            clear hEr hBr hb
            by_cases hle : (x : Int) ≤ 126
            · have hxi : (x : Int) < 128 := by omega
              have hcell := cell_of_row _ w.heap.size x _ _ _ HBr.out
              rw [boolRow_get S x (by omega)] at hcell
              have hfz := frozen_of_row _ E (2 + x) _ _ HEr.out
              have hcellE := cell_of_row _ E (2 + x) _ _ _ HEr.out
              rw [elRow_get _ _ _ x (by omega)] at hcellE
              have hset := elRow_put false false (fun y => decide (32 ≤ y.toNat) && decide (y.toNat < x) && (S y != false)) x (S (UInt8.ofNat x) != false) (by omega)
              rw [low_succ S false x hx1 (by omega)] at hset
              have Hset := Lib.hid hset
              have hxn : ¬ (x : Int) < 0 := by omega
              have hBE : E ≠ w.heap.size := by omega
              clear hset
              generalize S (UInt8.ofNat x) = b at *
              go_wp2
              go_region
              all_goals
                go_wp2
                refine ⟨⟨x + 1, by omega, by omega, rfl, ?_, ?_, ?_⟩, by simp [intOf]; omega⟩
                · have e := block_setCell4 (i := 2 + x) HEr.out (.bool (b != false))
                  rw [Hset.out] at e
                  cases b <;> exact e
                · show (wr.setCell _ _).heap[w.heap.size]? = _
                  simp only [World.setCell, Array.getElem?_modify]
                  rw [if_neg hBE]
                  exact HBr.out
                · exact ((Hb.out.setCell (Nat.le_refl _) _).trans ⟨rfl, rfl, rfl, Nat.le_refl _, fun _ _ => rfl⟩)
            · obtain rfl : x = 127 := by omega
              have hrowE : wr.heap[E]? = some (.cells (elRow false false fun x => isText x && (S x != false)) 95 (0, 0)) := by
                rw [HEr.out]
                congr 3
                funext x
                unfold isText
                congr 2
                rw [decide_eq_decide]
                omega
              have Hfin := Lib.hid (Hq.out _ Hb.out hrowE)
              rw [HDk.out] at Hfin
              clear hrowE
              go_wp2
              exact Hfin.out
      · have hq : ((a.toNat : Int) != 93) = true := by
          rw [bne_iff_ne]
          intro h
          exact h93 (UInt8.toNat_inj.1 (by show a.toNat = 93; omega))
        have ha127 : a.toNat ≤ 126 := by
          have := Hat.out
          unfold isText at this
          simp only [Bool.and_eq_true, decide_eq_true_eq] at this
          exact this.2
        have hai : (a.toNat : Int) < 128 := by omega
        have hn : ((p.data.toList.drop (k + 1)).contains 93 = true → D = k + 1 + (p.data.toList.drop (k + 1)).idxOf 93) ∧ ((p.data.toList.drop i).contains 93 = (p.data.toList.drop (k + 1)).contains 93) ∧ (k + 1 = i ∨ (p.data.toList.drop i)[0]? ≠ some 93) := by
          refine ⟨fun h => ?_, ?_, ?_⟩
          · have := Hidx.out (by rw [Hdr.out, contains_cons_ne h93]; exact h)
            rw [Hdr.out, idx_cons_ne h93] at this
            omega
          · rw [Hcon.out, Hdr.out, contains_cons_ne h93]
          · rcases Hfst.out with h | h
            · right
              rw [← h, Hdr.out]
              simpa using h93
            · exact Or.inr h
        have Hn := Lib.hid hn
        have hcell := cell_of_row _ w.heap.size a.toNat _ _ _ Hrow.out
        rw [boolRow_get S a.toNat (by omega)] at hcell
        have hfz := frozen_of_row _ w.heap.size a.toNat _ _ Hrow.out
        clear hn
        by_cases h2 : (k : Int) + 2 < (p.size : Int)
        · obtain ⟨b, hb1⟩ : ∃ b : UInt8, p[k + 1]'(by omega) = b := ⟨_, rfl⟩
          obtain ⟨c2, hc2⟩ : ∃ c2 : UInt8, p[k + 2]'(by omega) = c2 := ⟨_, rfl⟩
          have hbl : p.data.toList[k + 1]? = some b := by rw [← hb1]; exact Lib.data_getElem? p (k + 1) (by omega)
          have hcl : p.data.toList[k + 2]? = some c2 := by rw [← hc2]; exact Lib.data_getElem? p (k + 2) (by omega)
          have hd1 := drop_at8 hbl
          have hd2 := drop_at8 hcl
          rw [show k + 1 + 1 = k + 2 from rfl] at hd1
          rw [show k + 2 + 1 = k + 3 from rfl] at hd2
          have hct : isText c2 = true := List.all_eq_true.1 Ht.out c2 (List.mem_of_getElem? hcl)
          have hc126 : c2.toNat ≤ 126 := by
            unfold isText at hct
            simp only [Bool.and_eq_true, decide_eq_true_eq] at hct
            exact hct.2
          have Hd1 := Lib.hid hd1
          have Hd2 := Lib.hid hd2
          have h1i : (k : Int) + 1 < (p.size : Int) := by omega
          clear hbl hcl hd1 hd2 hct
          by_cases h45 : b = 45
          · have hq45 : ((b.toNat : Int) == 45) = true := by rw [h45]; rfl
            by_cases hc93 : c2 = 93
            · have hqc : ((c2.toNat : Int) != 93) = false := by rw [hc93]; rfl
              have Hone := Lib.hid (memR_one S h93 (p.data.toList.drop (k + 1)) (fun h => h.2.2 (by rw [Hd1.out, Hd2.out, hc93]; rfl)))
              clear h45 hc93 h93
              go_wp2
              refine ⟨⟨k + 1, fun x => S x || rangeB a a x, by omega, by omega, rfl, by rw [← Hone.out, ← Hdr.out]; exact Hmem.out, Hn.out.1, Hn.out.2.1, Hn.out.2.2, ?_, Hbel.out.setCell (Nat.le_refl _) _, by rw [World.size_setCell]; exact Hsize.out⟩, by simp [intOf]; omega⟩
              have e := block_setCell4 (i := a.toNat) Hrow.out (.bool true)
              rw [row_one S a (by omega)] at e
              exact e
            · have hqc : ((c2.toNat : Int) != 93) = true := by
                rw [bne_iff_ne]
                intro h
                exact hc93 (UInt8.toNat_inj.1 (by show c2.toNat = 93; omega))
              have hrg := memR_range S h93 hc93 (p.data.toList.drop (k + 3))
              rw [← Hd2.out, ← h45, ← Hd1.out, ← Hdr.out, Hmem.out] at hrg
              by_cases hgt : (c2.toNat : Int) < (a.toNat : Int)
              · rw [if_pos (by omega)] at hrg
                have Hq := Lib.hid (Q1.out (Or.inl hrg))
                have Hb := Lib.hid (Hbel.out.mono (Nat.le_of_lt hE))
                clear hrg h45 hc93 h93 hcell hfz
                go_wp2
                go_quiet (fail)
                go_wp2
                exact Hq.out _ ⟨Hb.out.os, Hb.out.tape, Hb.out.output, Hb.out.size, Hb.out.block⟩
              · rw [if_neg (by omega)] at hrg
                have hn3 : ((p.data.toList.drop (k + 3)).contains 93 = true → D = k + 3 + (p.data.toList.drop (k + 3)).idxOf 93) ∧ ((p.data.toList.drop i).contains 93 = (p.data.toList.drop (k + 3)).contains 93) ∧ (k + 3 = i ∨ (p.data.toList.drop i)[0]? ≠ some 93) := by
                  obtain ⟨n1, n2, n3⟩ := Hn.out
                  have hb93 : b ≠ 93 := by rw [h45]; decide
                  refine ⟨fun h => ?_, ?_, ?_⟩
                  · have := n1 (by rw [Hd1.out, contains_cons_ne hb93, Hd2.out, contains_cons_ne hc93]; exact h)
                    rw [Hd1.out, idx_cons_ne hb93, Hd2.out, idx_cons_ne hc93] at this
                    omega
                  · rw [n2, Hd1.out, contains_cons_ne hb93, Hd2.out, contains_cons_ne hc93]
                  · rcases n3 with h | h
                    · rcases Hfst.out with h' | h'
                      · omega
                      · exact Or.inr h'
                    · exact Or.inr h
                have Hn3 := Lib.hid hn3
                have Hrg := Lib.hid hrg
                have hle : (a.toNat : Int) ≤ (c2.toNat : Int) := by omega
                clear hrg hn3 h45 hc93 h93 hcell hfz
                go_wp2
                go_quiet (fail)
                go_wp2
                go_loopw [11] (fun s11 wx => ∃ j : Nat, a.toNat ≤ j ∧ j ≤ c2.toNat + 1 ∧ s11 = .int .i64 j ∧ wx.heap[w.heap.size]? = some (.cells (boolRow fun x => S x || (decide (a.toNat ≤ x.toNat) && decide (x.toNat < j))) 93 (0, 0)) ∧ Below w.heap.size w wx ∧ wx.heap.size = w.heap.size + 1) (fun s11 _ => c2.toNat + 1 - (intOf s11).toNat)
                case atStart => exact ⟨a.toNat, Nat.le_refl _, by omega, rfl, by rw [low_range]; exact Hrow.out, ⟨Hbel.out.os, Hbel.out.tape, Hbel.out.output, Hbel.out.size, Hbel.out.block⟩, Hsize.out⟩
                case round =>
                  obtain ⟨j, hj1, hj2, rfl, hjr, hjb, hjs⟩ := hrel
                  have Hjr := Lib.hid hjr
                  have Hjb := Lib.hid hjb
                  have Hjs := Lib.hid hjs
                  clear hjr hjb hjs
                  by_cases hjle : (j : Int) ≤ (c2.toNat : Int)
                  · have hj128 : (j : Int) < 128 := by omega
                    have hcell := cell_of_row _ w.heap.size j _ _ _ Hjr.out
                    rw [boolRow_get _ j (by omega)] at hcell
                    have hfz := frozen_of_row _ w.heap.size j _ _ Hjr.out
                    go_wp2
                    refine ⟨⟨j + 1, by omega, by omega, rfl, ?_, Hjb.out.setCell (Nat.le_refl _) _, by rw [World.size_setCell]; exact Hjs.out⟩, by simp [intOf]; omega⟩
                    have e := block_setCell4 (i := j) Hjr.out (.bool true)
                    rw [low_range_succ S a j hj1 (by omega)] at e
                    exact e
                  · obtain rfl : j = c2.toNat + 1 := by omega
                    have hjr := Hjr.out
                    rw [high_range] at hjr
                    have Hjr := Lib.hid hjr
                    clear hjr
                    go_wp2
                    exact ⟨⟨k + 3, fun x => S x || rangeB a c2 x, by omega, by omega, rfl, Hrg.out.symm, Hn3.out.1, Hn3.out.2.1, Hn3.out.2.2, Hjr.out, Hjb.out, Hjs.out⟩, by simp [intOf]; omega⟩
          · have hq45 : ((b.toNat : Int) == 45) = false := byte_ne (x := b) (k := 45) (by omega) h45
            have Hone := Lib.hid (memR_one S h93 (p.data.toList.drop (k + 1)) (fun h => h45 (by have := h.2.1; rw [Hd1.out] at this; simpa using this)))
            clear h45 h93
            go_wp2
            refine ⟨⟨k + 1, fun x => S x || rangeB a a x, by omega, by omega, rfl, by rw [← Hone.out, ← Hdr.out]; exact Hmem.out, Hn.out.1, Hn.out.2.1, Hn.out.2.2, ?_, Hbel.out.setCell (Nat.le_refl _) _, by rw [World.size_setCell]; exact Hsize.out⟩, by simp [intOf]; omega⟩
            have e := block_setCell4 (i := a.toNat) Hrow.out (.bool true)
            rw [row_one S a (by omega)] at e
            exact e
        · have hlen : ¬ 2 ≤ (p.data.toList.drop (k + 1)).length := by rw [List.length_drop, ← Lib.size_eq]; omega
          have Hone := Lib.hid (memR_one S h93 (p.data.toList.drop (k + 1)) (fun h => hlen h.1))
          clear hlen h93
          go_wp2
          refine ⟨⟨k + 1, fun x => S x || rangeB a a x, by omega, by omega, rfl, by rw [← Hone.out, ← Hdr.out]; exact Hmem.out, Hn.out.1, Hn.out.2.1, Hn.out.2.2, ?_, Hbel.out.setCell (Nat.le_refl _) _, by rw [World.size_setCell]; exact Hsize.out⟩, by simp [intOf]; omega⟩
          have e := block_setCell4 (i := a.toNat) Hrow.out (.bool true)
          rw [row_one S a (by omega)] at e
          exact e
    · obtain rfl : k = p.size := by omega
      have hnone : T = none := by rw [← Hmem.out, Lib.size_eq, List.drop_length]; rfl
      have Hq := Lib.hid (Q1.out (Or.inl hnone))
      have hb : Below E w wr := Hbel.out.mono (by omega)
      have Hb := Lib.hid hb
      clear hb hnone
      go_wp2
      exact Hq.out _ Hb.out
end Go.Proofs.YteiphphihclnfaaDoor.Gl
