/- Rows of elements, and matches. -/
import Derived.Test.YtdlchlbngojljaaDoorKGlB
import Derived.Test.YtdlchlbngojljaaDoorKGlN
import Derived.Test.YtdlchlbngojljaaDoorKGlP4
namespace Go.Proofs.YtdlchlbngojljaaDoor.Gl
open Go.RowKit
/-- The elements l lie in the block g, one behind the other. -/
def ElsAt (w : World) (g : Nat) (l : List El) : Prop := ∀ i e, l[i]? = some e → SetAt4 w g (i * 6) e.set ∧ w.cell? ⟨g, i * 6 + 4, none⟩ = some (.bool e.star) ∧ w.cell? ⟨g, i * 6 + 5, none⟩ = some (.bool e.self)
def stV : Option Nat → Int
 | none => -1
 | some k => k
/-- Nothing but draws lies between two worlds. -/
def Dr (w w' : World) : Prop := ∃ n, w' = w.drewN n
theorem Dr.refl (w : World) : Dr w w := ⟨0, rfl⟩
theorem Dr.drewN {w w' : World} (h : Dr w w') (k : Nat) : Dr w (w'.drewN k) := by
 obtain ⟨n, rfl⟩ := h
 exact ⟨n + k, by rw [World.drewN_drewN]⟩
theorem Dr.els {w w' : World} (h : Dr w w') {g : Nat} {l : List El} (hE : ElsAt w g l) : ElsAt w' g l := by
 obtain ⟨n, rfl⟩ := h
 exact hE
def Drw (v : Value) (w : World) (e : Ending) (w' : World) : Prop := e = .returned v ∧ Dr w w'
def measN (L N st pos read kept : Nat) : Nat := ((L - st) * (N + 1) + (N - kept)) * (L + N + 1) + (L - pos + (N - read))
def meas (L N : Nat) (s5 s6 s7 s8 : Value) : Nat := measN L N (intOf s6 + 1).toNat (intOf s5).toNat (intOf s7).toNat (intOf s8).toNat
theorem meas_at (L N pos read kept : Nat) (st : Option Nat) : meas L N (.int .i64 pos) (.int .i64 (stV st)) (.int .i64 read) (.int .i64 kept) = measN L N (stV st + 1).toNat pos read kept := by simp [meas, intOf]
theorem lex_top {X' X M C' C : Nat} (h : X' < X) (hc : C' ≤ M) : X' * (M + 1) + C' < X * (M + 1) + C := by
 have h1 : (X' + 1) * (M + 1) ≤ X * (M + 1) := Nat.mul_le_mul_right _ h
 rw [Nat.add_mul] at h1
 omega
theorem meas_star {L N st st' pos pos' read read' kept kept' : Nat} (h : st < st') (h' : st' ≤ L) : measN L N st' pos' read' kept' < measN L N st pos read kept :=
 lex_top (lex_top (by omega) (by omega)) (by omega)
theorem meas_kept {L N st pos pos' read read' kept kept' : Nat} (h : kept < kept') (h' : kept' ≤ N) : measN L N st pos' read' kept' < measN L N st pos read kept :=
 lex_top (by omega) (by omega)
theorem meas_byte {L N st pos pos' read read' kept : Nat} (h : pos < pos') (h' : pos' ≤ L) (hr : read ≤ read') : measN L N st pos' read' kept < measN L N st pos read kept := by
 unfold measN
 omega
theorem meas_onStar {l : List El} {t : List UInt8} {pos read kept : Nat} {st : Option Nat} {L N : Nat} (h : MInv l t pos st read kept) (hp : pos < L) : meas L N (.int .i64 ((pos : Int) + 1)) (.int .i64 (pos : Int)) (.int .i64 read) (.int .i64 read) < meas L N (.int .i64 pos) (.int .i64 (stV st)) (.int .i64 read) (.int .i64 kept) := by
 have e : meas L N (.int .i64 ((pos : Int) + 1)) (.int .i64 (pos : Int)) (.int .i64 read) (.int .i64 read) = measN L N (pos + 1) (pos + 1) read read := by simp only [meas, intOf]; congr 1
 rw [e, meas_at]
 refine meas_star ?_ hp
 cases st with
 | none => simp [stV]
 | some k => have := (h.star k rfl).1; simp [stV]; omega
theorem meas_onByte {pos read kept : Nat} {st : Option Nat} {L N : Nat} (hp : pos < L) : meas L N (.int .i64 ((pos : Int) + 1)) (.int .i64 (stV st)) (.int .i64 ((read : Int) + 1)) (.int .i64 kept) < meas L N (.int .i64 pos) (.int .i64 (stV st)) (.int .i64 read) (.int .i64 kept) := by
 have e := meas_at L N (pos + 1) (read + 1) kept st
 rw [Int.natCast_add, Int.natCast_add] at e
 rw [show ((pos : Int) + 1) = ((pos : Int) + ((1 : Nat) : Int)) from rfl, show ((read : Int) + 1) = ((read : Int) + ((1 : Nat) : Int)) from rfl, e, meas_at]
 exact meas_byte (Nat.lt_succ_self _) hp (Nat.le_succ _)
theorem meas_onBack {pos read kept k : Nat} {L N : Nat} (hp : kept < N) : meas L N (.int .i64 ((k : Int) + 1)) (.int .i64 (k : Int)) (.int .i64 ((kept : Int) + 1)) (.int .i64 ((kept : Int) + 1)) < meas L N (.int .i64 pos) (.int .i64 (k : Int)) (.int .i64 read) (.int .i64 kept) := by
 have e := meas_at L N (k + 1) (kept + 1) (kept + 1) (some k)
 rw [Int.natCast_add, Int.natCast_add] at e
 have e2 := meas_at L N pos read kept (some k)
 rw [show ((k : Int) + 1) = ((k : Int) + ((1 : Nat) : Int)) from rfl, show ((kept : Int) + 1) = ((kept : Int) + ((1 : Nat) : Int)) from rfl]
 show meas L N _ (.int .i64 (stV (some k))) _ _ < meas L N _ (.int .i64 (stV (some k))) _ _
 rw [e, e2]
 exact meas_kept (Nat.lt_succ_self _) hp
set_option maxHeartbeats 400000 in
set_option maxRecDepth 100000 in
theorem matches_any (a : Option Addr) (cap g : Nat) (l : List El) (s : ByteArray) (w : World) (hok : ∀ e ∈ l, e.ok) (ha : 0 < l.length → a = some ⟨g, 0, none⟩) (hE : ElsAt w g l) (hl : l.length ≤ 4096) (hs : s.size ≤ 4611686018427387904) :
  Calls Tryd.prog 38 #[.slice a l.length cap, .string s] w (Drw (.bool (mB l s.data.toList)) w) := by
 obtain ⟨L, hL⟩ : ∃ L, l.length = L := ⟨_, rfl⟩
 have hsz := Lib.size_eq s
 obtain ⟨t, ht⟩ : ∃ t, s.data.toList = t := ⟨_, rfl⟩
 have hget : ∀ i (hi : i < s.size), t[i]? = some s[i] := fun i hi => by rw [← ht]; exact Lib.data_getElem? s i hi
 have Hok := Lib.hid hok
 have HE := Lib.hid hE
 have Hget := Lib.hid hget
 have HL := Lib.hid hL
 have hLs : (L : Int) ≤ 4096 := by omega
 rw [hL] at ha ⊢
 rw [ht] at hsz ⊢
 have Ha := Lib.hid ha
 have Hsz := Lib.hid hsz
 have hss : (s.size : Int) ≤ 4611686018427387904 := by omega
 clear hok hE hget hL ht hl ha hsz
 go_enter Tryd.func38, Tryd.ntmps38
 go_wp2
 go_loopw [5, 6, 7, 8] (fun s5 s6 s7 s8 wx => ∃ (pos : Nat) (st : Option Nat) (read kept : Nat), s5 = .int .i64 pos ∧ s6 = .int .i64 (stV st) ∧ s7 = .int .i64 read ∧ s8 = .int .i64 kept ∧ MInv l t pos st read kept ∧ Dr w wx) (fun s5 s6 s7 s8 _ => meas L s.size s5 s6 s7 s8)
 case atStart => exact ⟨0, none, 0, 0, rfl, rfl, rfl, rfl, MInv.start l t, Dr.refl w⟩
 case round =>
  obtain ⟨pos, st, read, kept, rfl, rfl, rfl, rfl, hinv, hdr⟩ := hrel
  have Hdr := Lib.hid hdr
  clear hdr
  by_cases hread : (read : Int) < (s.size : Int)
  ·have hc := Hget.out read (by omega)
   have hrd : read < s.size := by omega
   obtain ⟨x, hx⟩ : ∃ x, s[read]'hrd = x := ⟨_, rfl⟩
   rw [hx] at hc
   by_cases hpos : (pos : Int) < (L : Int)
   ·have hposL : pos < l.length := by rw [HL.out]; omega
    obtain ⟨e, he⟩ : ∃ e, l[pos]? = some e := ⟨l[pos], List.getElem?_eq_getElem hposL⟩
    obtain rfl := Ha.out (by omega)
    obtain ⟨hset, hstar, _⟩ := Hdr.out.els HE.out pos e he
    cases hes : e.star with
    | true =>
     rw [hes] at hstar
     have Hnext := Lib.hid (hinv.onStar Hok.out he hes)
     have Hm := Lib.hid (meas_onStar (L := L) (N := s.size) hinv (by omega))
     clear hinv hset hc
     go_wp2
     exact ⟨⟨pos + 1, some pos, read, read, rfl, rfl, rfl, rfl, Hnext.out, Hdr.out⟩, Hm.out⟩
    | false =>
     rw [hes] at hstar
     have Hhas := Lib.hid (fun W h => has_any g (pos * 6) e.set x W h)
     have Hset := Lib.hid hset
     clear hset
     cases hex : e.set x with
     | true =>
      have Hnext := Lib.hid (hinv.onByte he hes hc hex)
      have Hm := Lib.hid (meas_onByte (read := read) (kept := kept) (st := st) (N := s.size) (show pos < L by omega))
      rw [hex] at Hhas
      clear hinv hc hex hes
      go_wp2
      go_quiet (first | (go_at_call 57; exact Calls.quiet_of_same (Hhas.out _ Hset.out)))
      go_wp2
      exact ⟨⟨pos + 1, st, read + 1, kept, rfl, rfl, rfl, rfl, Hnext.out, Hdr.out.drewN nq⟩, Hm.out⟩
     | false =>
      have hstuck : stuckAt l t pos read := Or.inr ⟨e, x, he, hes, hc, hex⟩
      rw [hex] at Hhas
      cases st with
      | none =>
       have Hv := Lib.hid (hinv.onFail hc hstuck (Or.inl rfl))
       have hst : stV none = -1 := rfl
       rw [hst]
       clear hinv hc hex hes hstuck
       go_wp2
       go_quiet (first | (go_at_call 57; exact Calls.quiet_of_same (Hhas.out _ Hset.out)))
       obtain ⟨w2, hw2⟩ : ∃ w2, wr.drewN nq = w2 := ⟨_, rfl⟩
       have Hdr2 := Lib.hid (Hdr.out.drewN nq)
       rw [hw2] at Hdr2 ⊢
       clear hw2
       go_wp2
       go_quiet (first | (go_at_call 57; exact Calls.quiet_of_same (Hhas.out _ Hset.out)))
       go_wp2
       go_ret
       exact ⟨by rw [Hv.out]; rfl, Hdr2.out.drewN _⟩
      | some k =>
       obtain ⟨hkp, ⟨f, hf, hfs⟩, _, hrk⟩ := hinv.star k rfl
       have hkr : kept < s.size := by have := hinv.kept_le; omega
       have hd := Hget.out kept hkr
       obtain ⟨y, hy⟩ : ∃ y, s[kept]'hkr = y := ⟨_, rfl⟩
       rw [hy] at hd
       have hstV : stV (some k) = (k : Int) := rfl
       rw [hstV]
       have hkL : (k : Int) < (L : Int) := by omega
       have hkri : (kept : Int) < (s.size : Int) := by omega
       have Hhas2 := Lib.hid (fun W h => has_any g (k * 6) f.set y W h)
       cases hfy : f.set y with
       | true =>
        rw [hfy] at Hhas2
        have Hnext := Lib.hid (hinv.onBack hc hstuck hf hd hfy)
        have Hm := Lib.hid (meas_onBack (pos := pos) (read := read) (k := k) (L := L) hkr)
        clear hinv hc hex hes hstuck hd hrk hfs
        go_wp2
        go_quiet (first | (go_at_call 57; exact Calls.quiet_of_same (Hhas.out _ Hset.out)))
        obtain ⟨w2, hw2⟩ : ∃ w2, wr.drewN nq = w2 := ⟨_, rfl⟩
        have Hdr2 := Lib.hid (Hdr.out.drewN nq)
        rw [hw2] at Hdr2 ⊢
        have Hset2 := Lib.hid (Hdr2.out.els HE.out k f hf).1
        clear hw2
        go_wp2
        go_quiet (first | (go_at_call 57; exact Calls.quiet_of_same (Hhas2.out _ Hset2.out)))
        go_wp2
        exact ⟨⟨k + 1, some k, kept + 1, kept + 1, rfl, rfl, rfl, rfl, Hnext.out, Hdr2.out.drewN _⟩, Hm.out⟩
       | false =>
        rw [hfy] at Hhas2
        have Hv := Lib.hid (hinv.onFail hc hstuck (Or.inr ⟨k, f, y, rfl, hf, hd, hfy⟩))
        clear hinv hc hex hes hstuck hd hrk hfs
        go_wp2
        go_quiet (first | (go_at_call 57; exact Calls.quiet_of_same (Hhas.out _ Hset.out)))
        obtain ⟨w2, hw2⟩ : ∃ w2, wr.drewN nq = w2 := ⟨_, rfl⟩
        have Hdr2 := Lib.hid (Hdr.out.drewN nq)
        rw [hw2] at Hdr2 ⊢
        have Hset2 := Lib.hid (Hdr2.out.els HE.out k f hf).1
        clear hw2
        go_wp2
        go_quiet (first | (go_at_call 57; exact Calls.quiet_of_same (Hhas2.out _ Hset2.out)))
        go_wp2
        go_ret
        exact ⟨by rw [Hv.out]; rfl, Hdr2.out.drewN _⟩
   ·have hstuck : stuckAt l t pos read := Or.inl (List.getElem?_eq_none (by rw [HL.out]; omega))
    cases st with
    | none =>
     have Hv := Lib.hid (hinv.onFail hc hstuck (Or.inl rfl))
     have hst : stV none = -1 := rfl
     rw [hst]
     clear hinv hc hstuck
     go_wp2
     have hpd : decide (pos < L) = false := decide_eq_false (by omega)
     go_quiet (fail)
     obtain ⟨w2, hw2⟩ : ∃ w2, wr.drewN nq = w2 := ⟨_, rfl⟩
     have Hdr2 := Lib.hid (Hdr.out.drewN nq)
     rw [hw2] at Hdr2 ⊢
     clear hw2
     go_wp2
     go_quiet (fail)
     go_wp2
     go_ret
     exact ⟨by rw [Hv.out]; rfl, Hdr2.out.drewN _⟩
    | some k =>
     obtain ⟨hkp, ⟨f, hf, hfs⟩, _, hrk⟩ := hinv.star k rfl
     have hkr : kept < s.size := by have := hinv.kept_le; omega
     have hd := Hget.out kept hkr
     obtain ⟨y, hy⟩ : ∃ y, s[kept]'hkr = y := ⟨_, rfl⟩
     rw [hy] at hd
     have hstV : stV (some k) = (k : Int) := rfl
     rw [hstV]
     have hkl := (List.getElem?_eq_some_iff.1 hf).1
     rw [HL.out] at hkl
     obtain rfl := Ha.out (by omega)
     have hkL : (k : Int) < (L : Int) := by omega
     have hkri : (kept : Int) < (s.size : Int) := by omega
     have Hhas2 := Lib.hid (fun W h => has_any g (k * 6) f.set y W h)
     cases hfy : f.set y with
     | true =>
      rw [hfy] at Hhas2
      have Hnext := Lib.hid (hinv.onBack hc hstuck hf hd hfy)
      have Hm := Lib.hid (meas_onBack (pos := pos) (read := read) (k := k) (L := L) hkr)
      clear hinv hc hstuck hd hrk hfs
      go_wp2
      have hpd : decide (pos < L) = false := decide_eq_false (by omega)
      go_quiet (fail)
      obtain ⟨w2, hw2⟩ : ∃ w2, wr.drewN nq = w2 := ⟨_, rfl⟩
      have Hdr2 := Lib.hid (Hdr.out.drewN nq)
      rw [hw2] at Hdr2 ⊢
      have Hset2 := Lib.hid (Hdr2.out.els HE.out k f hf).1
      clear hw2
      go_wp2
      go_quiet (first | (go_at_call 57; exact Calls.quiet_of_same (Hhas2.out _ Hset2.out)))
      go_wp2
      exact ⟨⟨k + 1, some k, kept + 1, kept + 1, rfl, rfl, rfl, rfl, Hnext.out, Hdr2.out.drewN _⟩, Hm.out⟩
     | false =>
      rw [hfy] at Hhas2
      have Hv := Lib.hid (hinv.onFail hc hstuck (Or.inr ⟨k, f, y, rfl, hf, hd, hfy⟩))
      clear hinv hc hstuck hd hrk hfs
      go_wp2
      have hpd : decide (pos < L) = false := decide_eq_false (by omega)
      go_quiet (fail)
      obtain ⟨w2, hw2⟩ : ∃ w2, wr.drewN nq = w2 := ⟨_, rfl⟩
      have Hdr2 := Lib.hid (Hdr.out.drewN nq)
      rw [hw2] at Hdr2 ⊢
      have Hset2 := Lib.hid (Hdr2.out.els HE.out k f hf).1
      clear hw2
      go_wp2
      go_quiet (first | (go_at_call 57; exact Calls.quiet_of_same (Hhas2.out _ Hset2.out)))
      go_wp2
      go_ret
      exact ⟨by rw [Hv.out]; rfl, Hdr2.out.drewN _⟩
  ·have hrs : read = s.size := by have := hinv.read_le; have := Hsz.out; omega
   have hend : mB l t = mB (l.drop pos) [] := by
    rw [hrs, Hsz.out] at hinv
    exact hinv.onEnd
   have hpl : pos ≤ L := by rw [← HL.out]; exact hinv.pos_le
   have Hend := Lib.hid hend
   clear hinv hend
   go_wp2
   go_loop [5] (fun s5 => ∃ p : Nat, p ≤ L ∧ s5 = .int .i64 p ∧ mB l t = mB (l.drop p) []) (fun s5 => L - (intOf s5).toNat)
   case atStart => exact ⟨pos, hpl, rfl, Hend.out⟩
   case round =>
    obtain ⟨p, hp, rfl, hm⟩ := hrel
    have Hm := Lib.hid hm
    clear hm
    by_cases hlt : (p : Int) < (L : Int)
    ·have hpL : p < l.length := by rw [HL.out]; omega
     obtain ⟨e, he⟩ : ∃ e, l[p]? = some e := ⟨l[p], List.getElem?_eq_getElem hpL⟩
     obtain rfl := Ha.out (by omega)
     obtain ⟨_, hstar, _⟩ := Hdr.out.els HE.out p e he
     cases hes : e.star with
     | true =>
      rw [hes] at hstar
      have Hn := Lib.hid (mB_end_star he hes)
      go_wp2
      go_round
      case rel => exact ⟨p + 1, by omega, rfl, by rw [Hm.out, Hn.out]⟩
      case measure => simp [intOf]; omega
     | false =>
      rw [hes] at hstar
      have hv : mB l t = false := by rw [Hm.out]; exact mB_end_one he hes
      have Hv := Lib.hid hv
      have hne : ((p : Int) == (L : Int)) = false := by rw [beq_eq_false_iff_ne]; omega
      clear hv
      go_wp2
      go_ret
      exact ⟨by rw [Hv.out]; rfl, Hdr.out⟩
    ·obtain rfl : p = L := by omega
     have hv : mB l t = true := by rw [Hm.out, ← HL.out]; exact mB_end
     have Hv := Lib.hid hv
     clear hv
     go_wp2
     go_ret
     exact ⟨by rw [Hv.out]; rfl, Hdr.out⟩
end Go.Proofs.YtdlchlbngojljaaDoor.Gl
