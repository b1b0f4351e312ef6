/- isOp, unescaped, isToken, written. -/
import Derived.Test.YtccmlodocfpbhaaDoorB
import Derived.Test.YtccmlodocfpbhaaDoorShelf
namespace Go.Proofs.YtccmlodocfpbhaaDoor
open Go.RowKit

theorem bs_inj {a b : List UInt8} (h : bs a = bs b) : a = b := by
  have := congrArg (fun s : ByteArray => s.data.toList) h
  simpa [bs_data] using this

set_option maxHeartbeats 1000000 in
set_option maxRecDepth 100000 in
theorem isOp_any (o : List UInt8) (w : World) : Calls Tryd.prog 60 #[.string (bs o)] w fun r w' => r = .returned (.bool (opsL.contains o)) ∧ w = w' := by
  go_enter Tryd.func60, Tryd.ntmps60
  go_wp2
  all_goals go_ret
  all_goals refine ⟨congrArg (fun b : Bool => Ending.returned (.bool b)) ?_, rfl⟩
  all_goals simp_all [Lib.toList_data, bs_data, opsL]

/-- The variable internal/bytealg.MaxLen lies in block 0. -/
def Max (w : World) : Prop := ∃ m : Int, w.cell? ⟨0, 0, none⟩ = some (.int .i64 m)
theorem Max.pos {w : World} (h : Max w) : 0 < w.heap.size := by
  obtain ⟨m, h⟩ := h
  exact World.block_lt_of_cell? _ _ h
theorem Max.kp {w w' : World} {s : List Nat} (h : Max w) (hb : Kp s w w') (hs : 0 ∉ s) : Max w' := by
  have hp := h.pos
  obtain ⟨m, h⟩ := h
  refine ⟨m, ?_⟩
  simp only [World.cell?, hb.block 0 hp hs] at h ⊢
  exact h

/-- A token's cells. -/
def tokC (x : Tok) : Array Value := #[.string (bs x.key), .string (bs x.name), .string (bs x.op), .string (bs x.val)]
def TAt (w : World) (b : Nat) (x : Tok) : Prop := w.heap[b]? = some (.cells (tokC x) 43 (0, 0))
theorem TAt.cells {w : World} {b : Nat} {x : Tok} (h : TAt w b x) : w.cell? ⟨b, 0, none⟩ = some (.string (bs x.key)) ∧ w.cell? ⟨b, 1, none⟩ = some (.string (bs x.name)) ∧ w.cell? ⟨b, 2, none⟩ = some (.string (bs x.op)) ∧ w.cell? ⟨b, 3, none⟩ = some (.string (bs x.val)) := by
  refine ⟨?_, ?_, ?_, ?_⟩ <;> (rw [cell_of_row _ _ _ _ _ _ h]; rfl)
theorem TAt.kp {w w' : World} {b : Nat} {x : Tok} {s : List Nat} (h : TAt w b x) (hk : Kp s w w') (hs : b ∉ s) : TAt w' b x := (hk.block b (block_lt h) hs).trans h

theorem cons1 (l : List UInt8) (w : World) : Calls Tryd.prog 31 #[.string (bs l), .int .i64 1] w fun r w' => r = .returned (.bool (l.all lnCh)) ∧ Kp [] w w' := by
  have h := consists_any (bs l) 1 w (by decide)
  rw [bs_data, inC_line] at h
  exact h
theorem cons2 (l : List UInt8) (w : World) : Calls Tryd.prog 31 #[.string (bs l), .int .i64 2] w fun r w' => r = .returned (.bool (l.all upCh)) ∧ Kp [] w w' := by
  have h := consists_any (bs l) 2 w (by decide)
  rw [bs_data, inC_key] at h
  exact h
theorem cons4 (l : List UInt8) (w : World) : Calls Tryd.prog 31 #[.string (bs l), .int .i64 4] w fun r w' => r = .returned (.bool (l.all nmCh)) ∧ Kp [] w w' := by
  have h := consists_any (bs l) 4 w (by decide)
  rw [bs_data, inC_name] at h
  exact h
theorem cons16 (l : List UInt8) (w : World) : Calls Tryd.prog 31 #[.string (bs l), .int .i64 16] w fun r w' => r = .returned (.bool (l.all prCh)) ∧ Kp [] w w' := by
  have h := consists_any (bs l) 16 w (by decide)
  rw [bs_data, inC_val] at h
  exact h
theorem suffix_one (l : List UInt8) (c : UInt8) : Lib.hasSuffix l [c] = (l.getLast? == some c) := by
  unfold Lib.hasSuffix
  rw [Bool.eq_iff_iff, List.isSuffixOf_iff_suffix, beq_iff_eq]
  constructor
  · rintro ⟨t, rfl⟩
    simp
  · intro h
    obtain ⟨t, ht⟩ := List.getLast?_eq_some_iff.1 h
    exact ⟨t, ht.symm⟩
theorem suf92 (l : List UInt8) (w : World) (hl : l.length ≤ 9223372036854775807) : Calls Tryd.prog 24 #[.string (bs l), .string ⟨#[92]⟩] w fun r w' => r = .returned (.bool (l.getLast? == some 92)) ∧ w' = w := by
  have h := Tryd.strings_HasSuffix (bs l) ⟨#[92]⟩ w (by rw [bs_size]; exact hl)
  rw [bs_data, show (⟨#[92]⟩ : ByteArray).data.toList = [92] from rfl, suffix_one] at h
  exact h

/-- Whether a token can be written. -/
def goodB (x : Tok) : Bool := !x.key.isEmpty && x.key.all upCh && x.name.all nmCh && opsL.contains x.op && x.val.all prCh && !(x.val.getLast? == some 92)
theorem goodB_iff (x : Tok) : goodB x = true ↔ Good x := by
  unfold goodB
  rw [Bool.and_eq_true, Bool.and_eq_true, Bool.and_eq_true, Bool.and_eq_true, Bool.and_eq_true, Bool.not_eq_true', Bool.not_eq_true', beq_eq_false_iff_ne, List.contains_iff_mem]
  constructor
  · rintro ⟨⟨⟨⟨⟨a, b⟩, c⟩, d⟩, e⟩, f⟩
    exact { k0 := fun h => (by rw [h] at a; cases a), k1 := b, n1 := c, o1 := d, v1 := ⟨e, f⟩ }
  · intro h
    refine ⟨⟨⟨⟨⟨?_, h.k1⟩, h.n1⟩, h.o1⟩, h.v1.1⟩, h.v1.2⟩
    cases hk : x.key with
    | nil => exact absurd hk h.k0
    | cons a l => rfl

set_option maxHeartbeats 4000000 in
set_option maxRecDepth 100000 in
theorem isToken_any (x : Tok) (w : World) (hv : x.val.length ≤ 9223372036854775807) : Calls Tryd.prog 43 #[.agg (tokC x)] w fun r w' => r = .returned (.bool (goodB x)) ∧ Kp [] w w' := by
  obtain ⟨k, n, o, v⟩ := x
  have hs := fun W => suf92 v W hv
  have HS := Lib.hid hs
  have hA : TAt (w.alloc (.cells (tokC ⟨k, n, o, v⟩) 43)) w.heap.size ⟨k, n, o, v⟩ := heap_alloc_last w _
  have hK := (Kp.refl [] w).alloc (.cells (tokC ⟨k, n, o, v⟩) 43)
  obtain ⟨d0, d1, d2, d3⟩ := hA.cells
  have HA := Lib.hid hA
  have HK := Lib.hid hK
  have he := bs_isEmpty k
  have HE := Lib.hid he
  obtain ⟨b1, hb1⟩ : ∃ b, k.all upCh = b := ⟨_, rfl⟩
  obtain ⟨b2, hb2⟩ : ∃ b, n.all nmCh = b := ⟨_, rfl⟩
  obtain ⟨b3, hb3⟩ : ∃ b, opsL.contains o = b := ⟨_, rfl⟩
  obtain ⟨b4, hb4⟩ : ∃ b, v.all prCh = b := ⟨_, rfl⟩
  obtain ⟨b5, hb5⟩ : ∃ b, (v.getLast? == some 92) = b := ⟨_, rfl⟩
  have hg : goodB ⟨k, n, o, v⟩ = (!(bs k).toList.isEmpty && b1 && b2 && b3 && b4 && !b5) := by
    rw [bs_isEmpty, ← hb1, ← hb2, ← hb3, ← hb4, ← hb5]
    rfl
  have h2 := fun W => cons2 k W
  have h4 := fun W => cons4 n W
  have h16 := fun W => cons16 v W
  have h3 := fun W => isOp_any o W
  rw [hb1] at h2
  rw [hb2] at h4
  rw [hb4] at h16
  rw [hb3] at h3
  rw [hb5] at hs
  rw [hg]
  have H2 := Lib.hid h2
  have H4 := Lib.hid h4
  have H16 := Lib.hid h16
  have H3 := Lib.hid h3
  have HS := Lib.hid hs
  unfold tokC at HK HA hA hK d0 d1 d2 d3 ⊢
  simp only at HK HA hA hK d0 d1 d2 d3 ⊢
  clear hs h2 h4 h16 h3 hb1 hb2 hb3 hb4 hb5 hg hA hK he hv HE
  cases hke : (bs k).toList.isEmpty with
  | true =>
    go_enter Tryd.func43, Tryd.ntmps43
    go_wp2_with (first
      | (go_at_call 31; refine Calls.mono (by with_reducible exact H2.out _) ?_; rintro r w1 ⟨rfl, hk⟩; have HA := Lib.hid (TAt.kp (x := ⟨k, n, o, v⟩) HA.out hk (by simp)); have HK := Lib.hid (HK.out.trans hk); obtain ⟨d0, d1, d2, d3⟩ := TAt.cells HA.out; clear hk)
      | (go_at_call 31; refine Calls.mono (by with_reducible exact H4.out _) ?_; rintro r w2 ⟨rfl, hk⟩; have HA := Lib.hid (TAt.kp (x := ⟨k, n, o, v⟩) HA.out hk (by simp)); have HK := Lib.hid (HK.out.trans hk); obtain ⟨d0, d1, d2, d3⟩ := TAt.cells HA.out; clear hk)
      | (go_at_call 31; refine Calls.mono (by with_reducible exact H16.out _) ?_; rintro r w3 ⟨rfl, hk⟩; have HA := Lib.hid (TAt.kp (x := ⟨k, n, o, v⟩) HA.out hk (by simp)); have HK := Lib.hid (HK.out.trans hk); obtain ⟨d0, d1, d2, d3⟩ := TAt.cells HA.out; clear hk)
      | (go_at_call 60; refine Calls.mono (by with_reducible exact H3.out _) ?_; rintro r w4 ⟨rfl, rfl⟩)
      | (go_at_call 24; refine Calls.mono (by with_reducible exact HS.out _) ?_; rintro r w5 ⟨rfl, rfl⟩))
    go_ret
    exact ⟨rfl, HK.out⟩
  | false =>
    cases b1 with
    | false =>
      go_enter Tryd.func43, Tryd.ntmps43
      go_wp2_with (first
        | (go_at_call 31; refine Calls.mono (by with_reducible exact H2.out _) ?_; rintro r w1 ⟨rfl, hk⟩; have HA := Lib.hid (TAt.kp (x := ⟨k, n, o, v⟩) HA.out hk (by simp)); have HK := Lib.hid (HK.out.trans hk); obtain ⟨d0, d1, d2, d3⟩ := TAt.cells HA.out; clear hk)
        | (go_at_call 31; refine Calls.mono (by with_reducible exact H4.out _) ?_; rintro r w2 ⟨rfl, hk⟩; have HA := Lib.hid (TAt.kp (x := ⟨k, n, o, v⟩) HA.out hk (by simp)); have HK := Lib.hid (HK.out.trans hk); obtain ⟨d0, d1, d2, d3⟩ := TAt.cells HA.out; clear hk)
        | (go_at_call 31; refine Calls.mono (by with_reducible exact H16.out _) ?_; rintro r w3 ⟨rfl, hk⟩; have HA := Lib.hid (TAt.kp (x := ⟨k, n, o, v⟩) HA.out hk (by simp)); have HK := Lib.hid (HK.out.trans hk); obtain ⟨d0, d1, d2, d3⟩ := TAt.cells HA.out; clear hk)
        | (go_at_call 60; refine Calls.mono (by with_reducible exact H3.out _) ?_; rintro r w4 ⟨rfl, rfl⟩)
        | (go_at_call 24; refine Calls.mono (by with_reducible exact HS.out _) ?_; rintro r w5 ⟨rfl, rfl⟩))
      go_ret
      exact ⟨rfl, HK.out⟩
    | true =>
      cases b2 with
      | false =>
        go_enter Tryd.func43, Tryd.ntmps43
        go_wp2_with (first
          | (go_at_call 31; refine Calls.mono (by with_reducible exact H2.out _) ?_; rintro r w1 ⟨rfl, hk⟩; have HA := Lib.hid (TAt.kp (x := ⟨k, n, o, v⟩) HA.out hk (by simp)); have HK := Lib.hid (HK.out.trans hk); obtain ⟨d0, d1, d2, d3⟩ := TAt.cells HA.out; clear hk)
          | (go_at_call 31; refine Calls.mono (by with_reducible exact H4.out _) ?_; rintro r w2 ⟨rfl, hk⟩; have HA := Lib.hid (TAt.kp (x := ⟨k, n, o, v⟩) HA.out hk (by simp)); have HK := Lib.hid (HK.out.trans hk); obtain ⟨d0, d1, d2, d3⟩ := TAt.cells HA.out; clear hk)
          | (go_at_call 31; refine Calls.mono (by with_reducible exact H16.out _) ?_; rintro r w3 ⟨rfl, hk⟩; have HA := Lib.hid (TAt.kp (x := ⟨k, n, o, v⟩) HA.out hk (by simp)); have HK := Lib.hid (HK.out.trans hk); obtain ⟨d0, d1, d2, d3⟩ := TAt.cells HA.out; clear hk)
          | (go_at_call 60; refine Calls.mono (by with_reducible exact H3.out _) ?_; rintro r w4 ⟨rfl, rfl⟩)
          | (go_at_call 24; refine Calls.mono (by with_reducible exact HS.out _) ?_; rintro r w5 ⟨rfl, rfl⟩))
        go_ret
        exact ⟨rfl, HK.out⟩
      | true =>
        cases b3 with
        | false =>
          go_enter Tryd.func43, Tryd.ntmps43
          go_wp2_with (first
            | (go_at_call 31; refine Calls.mono (by with_reducible exact H2.out _) ?_; rintro r w1 ⟨rfl, hk⟩; have HA := Lib.hid (TAt.kp (x := ⟨k, n, o, v⟩) HA.out hk (by simp)); have HK := Lib.hid (HK.out.trans hk); obtain ⟨d0, d1, d2, d3⟩ := TAt.cells HA.out; clear hk)
            | (go_at_call 31; refine Calls.mono (by with_reducible exact H4.out _) ?_; rintro r w2 ⟨rfl, hk⟩; have HA := Lib.hid (TAt.kp (x := ⟨k, n, o, v⟩) HA.out hk (by simp)); have HK := Lib.hid (HK.out.trans hk); obtain ⟨d0, d1, d2, d3⟩ := TAt.cells HA.out; clear hk)
            | (go_at_call 31; refine Calls.mono (by with_reducible exact H16.out _) ?_; rintro r w3 ⟨rfl, hk⟩; have HA := Lib.hid (TAt.kp (x := ⟨k, n, o, v⟩) HA.out hk (by simp)); have HK := Lib.hid (HK.out.trans hk); obtain ⟨d0, d1, d2, d3⟩ := TAt.cells HA.out; clear hk)
            | (go_at_call 60; refine Calls.mono (by with_reducible exact H3.out _) ?_; rintro r w4 ⟨rfl, rfl⟩)
            | (go_at_call 24; refine Calls.mono (by with_reducible exact HS.out _) ?_; rintro r w5 ⟨rfl, rfl⟩))
          go_ret
          exact ⟨rfl, HK.out⟩
        | true =>
          cases b4 with
          | false =>
            go_enter Tryd.func43, Tryd.ntmps43
            go_wp2_with (first
              | (go_at_call 31; refine Calls.mono (by with_reducible exact H2.out _) ?_; rintro r w1 ⟨rfl, hk⟩; have HA := Lib.hid (TAt.kp (x := ⟨k, n, o, v⟩) HA.out hk (by simp)); have HK := Lib.hid (HK.out.trans hk); obtain ⟨d0, d1, d2, d3⟩ := TAt.cells HA.out; clear hk)
              | (go_at_call 31; refine Calls.mono (by with_reducible exact H4.out _) ?_; rintro r w2 ⟨rfl, hk⟩; have HA := Lib.hid (TAt.kp (x := ⟨k, n, o, v⟩) HA.out hk (by simp)); have HK := Lib.hid (HK.out.trans hk); obtain ⟨d0, d1, d2, d3⟩ := TAt.cells HA.out; clear hk)
              | (go_at_call 31; refine Calls.mono (by with_reducible exact H16.out _) ?_; rintro r w3 ⟨rfl, hk⟩; have HA := Lib.hid (TAt.kp (x := ⟨k, n, o, v⟩) HA.out hk (by simp)); have HK := Lib.hid (HK.out.trans hk); obtain ⟨d0, d1, d2, d3⟩ := TAt.cells HA.out; clear hk)
              | (go_at_call 60; refine Calls.mono (by with_reducible exact H3.out _) ?_; rintro r w4 ⟨rfl, rfl⟩)
              | (go_at_call 24; refine Calls.mono (by with_reducible exact HS.out _) ?_; rintro r w5 ⟨rfl, rfl⟩))
            go_ret
            exact ⟨rfl, HK.out⟩
          | true =>
            cases b5 with
            | false =>
              go_enter Tryd.func43, Tryd.ntmps43
              go_wp2_with (first
                | (go_at_call 31; refine Calls.mono (by with_reducible exact H2.out _) ?_; rintro r w1 ⟨rfl, hk⟩; have HA := Lib.hid (TAt.kp (x := ⟨k, n, o, v⟩) HA.out hk (by simp)); have HK := Lib.hid (HK.out.trans hk); obtain ⟨d0, d1, d2, d3⟩ := TAt.cells HA.out; clear hk)
                | (go_at_call 31; refine Calls.mono (by with_reducible exact H4.out _) ?_; rintro r w2 ⟨rfl, hk⟩; have HA := Lib.hid (TAt.kp (x := ⟨k, n, o, v⟩) HA.out hk (by simp)); have HK := Lib.hid (HK.out.trans hk); obtain ⟨d0, d1, d2, d3⟩ := TAt.cells HA.out; clear hk)
                | (go_at_call 31; refine Calls.mono (by with_reducible exact H16.out _) ?_; rintro r w3 ⟨rfl, hk⟩; have HA := Lib.hid (TAt.kp (x := ⟨k, n, o, v⟩) HA.out hk (by simp)); have HK := Lib.hid (HK.out.trans hk); obtain ⟨d0, d1, d2, d3⟩ := TAt.cells HA.out; clear hk)
                | (go_at_call 60; refine Calls.mono (by with_reducible exact H3.out _) ?_; rintro r w4 ⟨rfl, rfl⟩)
                | (go_at_call 24; refine Calls.mono (by with_reducible exact HS.out _) ?_; rintro r w5 ⟨rfl, rfl⟩))
              go_ret
              exact ⟨rfl, HK.out⟩
            | true =>
              go_enter Tryd.func43, Tryd.ntmps43
              go_wp2_with (first
                | (go_at_call 31; refine Calls.mono (by with_reducible exact H2.out _) ?_; rintro r w1 ⟨rfl, hk⟩; have HA := Lib.hid (TAt.kp (x := ⟨k, n, o, v⟩) HA.out hk (by simp)); have HK := Lib.hid (HK.out.trans hk); obtain ⟨d0, d1, d2, d3⟩ := TAt.cells HA.out; clear hk)
                | (go_at_call 31; refine Calls.mono (by with_reducible exact H4.out _) ?_; rintro r w2 ⟨rfl, hk⟩; have HA := Lib.hid (TAt.kp (x := ⟨k, n, o, v⟩) HA.out hk (by simp)); have HK := Lib.hid (HK.out.trans hk); obtain ⟨d0, d1, d2, d3⟩ := TAt.cells HA.out; clear hk)
                | (go_at_call 31; refine Calls.mono (by with_reducible exact H16.out _) ?_; rintro r w3 ⟨rfl, hk⟩; have HA := Lib.hid (TAt.kp (x := ⟨k, n, o, v⟩) HA.out hk (by simp)); have HK := Lib.hid (HK.out.trans hk); obtain ⟨d0, d1, d2, d3⟩ := TAt.cells HA.out; clear hk)
                | (go_at_call 60; refine Calls.mono (by with_reducible exact H3.out _) ?_; rintro r w4 ⟨rfl, rfl⟩)
                | (go_at_call 24; refine Calls.mono (by with_reducible exact HS.out _) ?_; rintro r w5 ⟨rfl, rfl⟩))
              go_ret
              exact ⟨rfl, HK.out⟩

theorem repl_any (s old new : ByteArray) (w : World) (hs : s.size ≤ 1000000000) (hm : Max w) (h1 : 1 ≤ old.size) (h2 : new.size ≤ 2) : Calls Tryd.prog 46 #[.string s, .string old, .string new] w fun r w' => r = .returned (.string ⟨(Lib.replaceAll s.data.toList old.data.toList new.data.toList).toArray⟩) ∧ Kp [] w w' := by
  obtain ⟨m, hm⟩ := hm
  have hmul := Lib.countB_mul_le old h1 s.size s (Nat.le_refl _)
  have h3 : Lib.countB s old * 1 ≤ Lib.countB s old * old.size := Nat.mul_le_mul_left _ h1
  have h4 : Lib.countB s old * new.size ≤ Lib.countB s old * 2 := Nat.mul_le_mul_left _ h2
  exact (Tryd.strings_ReplaceAll s old new m w (by omega) hm h1 (by omega)).mono fun r w' ⟨h, hb⟩ => ⟨h, Kp.of_below hb⟩
theorem unesc_any (l : List UInt8) (w : World) (hl : l.length ≤ 1000000000) (hm : Max w) : Calls Tryd.prog 34 #[.string (bs l)] w fun r w' => r = .returned (.string (bs (unescL l))) ∧ Kp [] w w' := by
  have h := repl_any (bs l) ⟨#[92, 34]⟩ ⟨#[34]⟩ w (by rw [bs_size]; exact hl) hm (by decide) (by decide)
  rw [bs_data, show (⟨#[92, 34]⟩ : ByteArray).data.toList = [92, 34] from rfl, show (⟨#[34]⟩ : ByteArray).data.toList = [34] from rfl, unesc_eq] at h
  have H := Lib.hid h
  clear h hm
  go_enter Tryd.func34, Tryd.ntmps34
  go_wp2_with (go_at_call 46; refine H.out.mono ?_; rintro r w' ⟨rfl, hk⟩)
  go_ret
  exact ⟨rfl, hk⟩
theorem esc_any (l : List UInt8) (w : World) (hl : l.length ≤ 1000000000) (hm : Max w) : Calls Tryd.prog 46 #[.string (bs l), .string ⟨#[34]⟩, .string ⟨#[92, 34]⟩] w fun r w' => r = .returned (.string (bs (fmtV l))) ∧ Kp [] w w' := by
  have h := repl_any (bs l) ⟨#[34]⟩ ⟨#[92, 34]⟩ w (by rw [bs_size]; exact hl) hm (by decide) (by decide)
  rw [bs_data, show (⟨#[92, 34]⟩ : ByteArray).data.toList = [92, 34] from rfl, show (⟨#[34]⟩ : ByteArray).data.toList = [34] from rfl, esc_eq] at h
  exact h
end Go.Proofs.YtccmlodocfpbhaaDoor
