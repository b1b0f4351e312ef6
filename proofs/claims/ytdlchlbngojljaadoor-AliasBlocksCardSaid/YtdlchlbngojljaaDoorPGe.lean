/- Rows of elements, and matches. Rows of bytes; beginning. -/
import Derived.Test.YtdlchlbngojljaaDoorPGlB
import Derived.Test.YtdlchlbngojljaaDoorPGlN
import Derived.Test.YtdlchlbngojljaaDoorPGlP4
import Derived.Maps.AppendAt
import Derived.Laws.BytesString
import Derived.Laws.BytesArg
namespace Go.Proofs.YtdlchlbngojljaaDoor.Gl
open Go.RowKit
/-- The elements l lie in the block g, one behind the other. -/
def ElsAt (w : World) (g : Nat) (l : List El) : Prop := ∀ i e, l[i]? = some e → SetAt4 w g (i * 6) e.set ∧ w.cell? ⟨g, i * 6 + 4, none⟩ = some (.bool e.star) ∧ w.cell? ⟨g, i * 6 + 5, none⟩ = some (.bool e.self)
def stV : Option Nat → Int
 | none => -1
 | some k => k
/-- Nothing but draws lies between two worlds. -/
def Dr (w w' : World) : Prop := ∃ n, w' = w.drewN n
theorem Dr.refl (w : World) : Dr w w := ⟨0, rfl⟩
theorem Dr.drewN {w w' : World} (h : Dr w w') (k : Nat) : Dr w (w'.drewN k) := by
 obtain ⟨n, rfl⟩ := h
 exact ⟨n + k, by rw [World.drewN_drewN]⟩
theorem Dr.els {w w' : World} (h : Dr w w') {g : Nat} {l : List El} (hE : ElsAt w g l) : ElsAt w' g l := by
 obtain ⟨n, rfl⟩ := h
 exact hE
def Drw (v : Value) (w : World) (e : Ending) (w' : World) : Prop := e = .returned v ∧ Dr w w'
def measN (L N st pos read kept : Nat) : Nat := ((L - st) * (N + 1) + (N - kept)) * (L + N + 1) + (L - pos + (N - read))
def meas (L N : Nat) (s5 s6 s7 s8 : Value) : Nat := measN L N (intOf s6 + 1).toNat (intOf s5).toNat (intOf s7).toNat (intOf s8).toNat
theorem meas_at (L N pos read kept : Nat) (st : Option Nat) : meas L N (.int .i64 pos) (.int .i64 (stV st)) (.int .i64 read) (.int .i64 kept) = measN L N (stV st + 1).toNat pos read kept := by simp [meas, intOf]
theorem lex_top {X' X M C' C : Nat} (h : X' < X) (hc : C' ≤ M) : X' * (M + 1) + C' < X * (M + 1) + C := by
 have h1 : (X' + 1) * (M + 1) ≤ X * (M + 1) := Nat.mul_le_mul_right _ h
 rw [Nat.add_mul] at h1
 omega
theorem meas_star {L N st st' pos pos' read read' kept kept' : Nat} (h : st < st') (h' : st' ≤ L) : measN L N st' pos' read' kept' < measN L N st pos read kept :=
 lex_top (lex_top (by omega) (by omega)) (by omega)
theorem meas_kept {L N st pos pos' read read' kept kept' : Nat} (h : kept < kept') (h' : kept' ≤ N) : measN L N st pos' read' kept' < measN L N st pos read kept :=
 lex_top (by omega) (by omega)
theorem meas_byte {L N st pos pos' read read' kept : Nat} (h : pos < pos') (h' : pos' ≤ L) (hr : read ≤ read') : measN L N st pos' read' kept < measN L N st pos read kept := by
 unfold measN
 omega
theorem meas_onStar {l : List El} {t : List UInt8} {pos read kept : Nat} {st : Option Nat} {L N : Nat} (h : MInv l t pos st read kept) (hp : pos < L) : meas L N (.int .i64 ((pos : Int) + 1)) (.int .i64 (pos : Int)) (.int .i64 read) (.int .i64 read) < meas L N (.int .i64 pos) (.int .i64 (stV st)) (.int .i64 read) (.int .i64 kept) := by
 have e : meas L N (.int .i64 ((pos : Int) + 1)) (.int .i64 (pos : Int)) (.int .i64 read) (.int .i64 read) = measN L N (pos + 1) (pos + 1) read read := by simp only [meas, intOf]; congr 1
 rw [e, meas_at]
 refine meas_star ?_ hp
 cases st with
 | none => simp [stV]
 | some k => have := (h.star k rfl).1; simp [stV]; omega
theorem meas_onByte {pos read kept : Nat} {st : Option Nat} {L N : Nat} (hp : pos < L) : meas L N (.int .i64 ((pos : Int) + 1)) (.int .i64 (stV st)) (.int .i64 ((read : Int) + 1)) (.int .i64 kept) < meas L N (.int .i64 pos) (.int .i64 (stV st)) (.int .i64 read) (.int .i64 kept) := by
 have e := meas_at L N (pos + 1) (read + 1) kept st
 rw [Int.natCast_add, Int.natCast_add] at e
 rw [show ((pos : Int) + 1) = ((pos : Int) + ((1 : Nat) : Int)) from rfl, show ((read : Int) + 1) = ((read : Int) + ((1 : Nat) : Int)) from rfl, e, meas_at]
 exact meas_byte (Nat.lt_succ_self _) hp (Nat.le_succ _)
theorem meas_onBack {pos read kept k : Nat} {L N : Nat} (hp : kept < N) : meas L N (.int .i64 ((k : Int) + 1)) (.int .i64 (k : Int)) (.int .i64 ((kept : Int) + 1)) (.int .i64 ((kept : Int) + 1)) < meas L N (.int .i64 pos) (.int .i64 (k : Int)) (.int .i64 read) (.int .i64 kept) := by
 have e := meas_at L N (k + 1) (kept + 1) (kept + 1) (some k)
 rw [Int.natCast_add, Int.natCast_add] at e
 have e2 := meas_at L N pos read kept (some k)
 rw [show ((k : Int) + 1) = ((k : Int) + ((1 : Nat) : Int)) from rfl, show ((kept : Int) + 1) = ((kept : Int) + ((1 : Nat) : Int)) from rfl]
 show meas L N _ (.int .i64 (stV (some k))) _ _ < meas L N _ (.int .i64 (stV (some k))) _ _
 rw [e, e2]
 exact meas_kept (Nat.lt_succ_self _) hp
set_option maxHeartbeats 400000 in
set_option maxRecDepth 100000 in
theorem matches_any (a : Option Addr) (cap g : Nat) (l : List El) (s : ByteArray) (w : World) (hok : ∀ e ∈ l, e.ok) (ha : 0 < l.length → a = some ⟨g, 0, none⟩) (hE : ElsAt w g l) (hl : l.length ≤ 4096) (hs : s.size ≤ 4611686018427387904) :
  Calls Tryd.prog 38 #[.slice a l.length cap, .string s] w (Drw (.bool (mB l s.data.toList)) w) := by
 obtain ⟨L, hL⟩ : ∃ L, l.length = L := ⟨_, rfl⟩
 have hsz := Lib.size_eq s
 obtain ⟨t, ht⟩ : ∃ t, s.data.toList = t := ⟨_, rfl⟩
 have hget : ∀ i (hi : i < s.size), t[i]? = some s[i] := fun i hi => by rw [← ht]; exact Lib.data_getElem? s i hi
 have Hok := Lib.hid hok
 have HE := Lib.hid hE
 have Hget := Lib.hid hget
 have HL := Lib.hid hL
 have hLs : (L : Int) ≤ 4096 := by omega
 rw [hL] at ha ⊢
 rw [ht] at hsz ⊢
 have Ha := Lib.hid ha
 have Hsz := Lib.hid hsz
 have hss : (s.size : Int) ≤ 4611686018427387904 := by omega
 clear hok hE hget hL ht hl ha hsz
 go_enter Tryd.func38, Tryd.ntmps38
 go_wp2
 go_loopw [5, 6, 7, 8] (fun s5 s6 s7 s8 wx => ∃ (pos : Nat) (st : Option Nat) (read kept : Nat), s5 = .int .i64 pos ∧ s6 = .int .i64 (stV st) ∧ s7 = .int .i64 read ∧ s8 = .int .i64 kept ∧ MInv l t pos st read kept ∧ Dr w wx) (fun s5 s6 s7 s8 _ => meas L s.size s5 s6 s7 s8)
 case atStart => exact ⟨0, none, 0, 0, rfl, rfl, rfl, rfl, MInv.start l t, Dr.refl w⟩
 case round =>
  obtain ⟨pos, st, read, kept, rfl, rfl, rfl, rfl, hinv, hdr⟩ := hrel
  have Hdr := Lib.hid hdr
  clear hdr
  by_cases hread : (read : Int) < (s.size : Int)
  ·have hc := Hget.out read (by omega)
   have hrd : read < s.size := by omega
   obtain ⟨x, hx⟩ : ∃ x, s[read]'hrd = x := ⟨_, rfl⟩
   rw [hx] at hc
   by_cases hpos : (pos : Int) < (L : Int)
   ·have hposL : pos < l.length := by rw [HL.out]; omega
    obtain ⟨e, he⟩ : ∃ e, l[pos]? = some e := ⟨l[pos], List.getElem?_eq_getElem hposL⟩
    obtain rfl := Ha.out (by omega)
    obtain ⟨hset, hstar, _⟩ := Hdr.out.els HE.out pos e he
    cases hes : e.star with
    | true =>
     rw [hes] at hstar
     have Hnext := Lib.hid (hinv.onStar Hok.out he hes)
     have Hm := Lib.hid (meas_onStar (L := L) (N := s.size) hinv (by omega))
     clear hinv hset hc
     go_wp2
     exact ⟨⟨pos + 1, some pos, read, read, rfl, rfl, rfl, rfl, Hnext.out, Hdr.out⟩, Hm.out⟩
    | false =>
     rw [hes] at hstar
     have Hhas := Lib.hid (fun W h => has_any g (pos * 6) e.set x W h)
     have Hset := Lib.hid hset
     clear hset
     cases hex : e.set x with
     | true =>
      have Hnext := Lib.hid (hinv.onByte he hes hc hex)
      have Hm := Lib.hid (meas_onByte (read := read) (kept := kept) (st := st) (N := s.size) (show pos < L by omega))
      rw [hex] at Hhas
      clear hinv hc hex hes
      go_wp2
      go_quiet (first | (go_at_call 57; exact Calls.quiet_of_same (Hhas.out _ Hset.out)))
      go_wp2
      exact ⟨⟨pos + 1, st, read + 1, kept, rfl, rfl, rfl, rfl, Hnext.out, Hdr.out.drewN nq⟩, Hm.out⟩
     | false =>
      have hstuck : stuckAt l t pos read := Or.inr ⟨e, x, he, hes, hc, hex⟩
      rw [hex] at Hhas
      cases st with
      | none =>
       have Hv := Lib.hid (hinv.onFail hc hstuck (Or.inl rfl))
       have hst : stV none = -1 := rfl
       rw [hst]
       clear hinv hc hex hes hstuck
       go_wp2
       go_quiet (first | (go_at_call 57; exact Calls.quiet_of_same (Hhas.out _ Hset.out)))
       obtain ⟨w2, hw2⟩ : ∃ w2, wr.drewN nq = w2 := ⟨_, rfl⟩
       have Hdr2 := Lib.hid (Hdr.out.drewN nq)
       rw [hw2] at Hdr2 ⊢
       clear hw2
       go_wp2
       go_quiet (first | (go_at_call 57; exact Calls.quiet_of_same (Hhas.out _ Hset.out)))
       go_wp2
       go_ret
       exact ⟨by rw [Hv.out]; rfl, Hdr2.out.drewN _⟩
      | some k =>
       obtain ⟨hkp, ⟨f, hf, hfs⟩, _, hrk⟩ := hinv.star k rfl
       have hkr : kept < s.size := by have := hinv.kept_le; omega
       have hd := Hget.out kept hkr
       obtain ⟨y, hy⟩ : ∃ y, s[kept]'hkr = y := ⟨_, rfl⟩
       rw [hy] at hd
       have hstV : stV (some k) = (k : Int) := rfl
       rw [hstV]
       have hkL : (k : Int) < (L : Int) := by omega
       have hkri : (kept : Int) < (s.size : Int) := by omega
       have Hhas2 := Lib.hid (fun W h => has_any g (k * 6) f.set y W h)
       cases hfy : f.set y with
       | true =>
        rw [hfy] at Hhas2
        have Hnext := Lib.hid (hinv.onBack hc hstuck hf hd hfy)
        have Hm := Lib.hid (meas_onBack (pos := pos) (read := read) (k := k) (L := L) hkr)
        clear hinv hc hex hes hstuck hd hrk hfs
        go_wp2
        go_quiet (first | (go_at_call 57; exact Calls.quiet_of_same (Hhas.out _ Hset.out)))
        obtain ⟨w2, hw2⟩ : ∃ w2, wr.drewN nq = w2 := ⟨_, rfl⟩
        have Hdr2 := Lib.hid (Hdr.out.drewN nq)
        rw [hw2] at Hdr2 ⊢
        have Hset2 := Lib.hid (Hdr2.out.els HE.out k f hf).1
        clear hw2
        go_wp2
        go_quiet (first | (go_at_call 57; exact Calls.quiet_of_same (Hhas2.out _ Hset2.out)))
        go_wp2
        exact ⟨⟨k + 1, some k, kept + 1, kept + 1, rfl, rfl, rfl, rfl, Hnext.out, Hdr2.out.drewN _⟩, Hm.out⟩
       | false =>
        rw [hfy] at Hhas2
        have Hv := Lib.hid (hinv.onFail hc hstuck (Or.inr ⟨k, f, y, rfl, hf, hd, hfy⟩))
        clear hinv hc hex hes hstuck hd hrk hfs
        go_wp2
        go_quiet (first | (go_at_call 57; exact Calls.quiet_of_same (Hhas.out _ Hset.out)))
        obtain ⟨w2, hw2⟩ : ∃ w2, wr.drewN nq = w2 := ⟨_, rfl⟩
        have Hdr2 := Lib.hid (Hdr.out.drewN nq)
        rw [hw2] at Hdr2 ⊢
        have Hset2 := Lib.hid (Hdr2.out.els HE.out k f hf).1
        clear hw2
        go_wp2
        go_quiet (first | (go_at_call 57; exact Calls.quiet_of_same (Hhas2.out _ Hset2.out)))
        go_wp2
        go_ret
        exact ⟨by rw [Hv.out]; rfl, Hdr2.out.drewN _⟩
   ·have hstuck : stuckAt l t pos read := Or.inl (List.getElem?_eq_none (by rw [HL.out]; omega))
    cases st with
    | none =>
     have Hv := Lib.hid (hinv.onFail hc hstuck (Or.inl rfl))
     have hst : stV none = -1 := rfl
     rw [hst]
     clear hinv hc hstuck
     go_wp2
     have hpd : decide (pos < L) = false := decide_eq_false (by omega)
     go_quiet (fail)
     obtain ⟨w2, hw2⟩ : ∃ w2, wr.drewN nq = w2 := ⟨_, rfl⟩
     have Hdr2 := Lib.hid (Hdr.out.drewN nq)
     rw [hw2] at Hdr2 ⊢
     clear hw2
     go_wp2
     go_quiet (fail)
     go_wp2
     go_ret
     exact ⟨by rw [Hv.out]; rfl, Hdr2.out.drewN _⟩
    | some k =>
     obtain ⟨hkp, ⟨f, hf, hfs⟩, _, hrk⟩ := hinv.star k rfl
     have hkr : kept < s.size := by have := hinv.kept_le; omega
     have hd := Hget.out kept hkr
     obtain ⟨y, hy⟩ : ∃ y, s[kept]'hkr = y := ⟨_, rfl⟩
     rw [hy] at hd
     have hstV : stV (some k) = (k : Int) := rfl
     rw [hstV]
     have hkl := (List.getElem?_eq_some_iff.1 hf).1
     rw [HL.out] at hkl
     obtain rfl := Ha.out (by omega)
     have hkL : (k : Int) < (L : Int) := by omega
     have hkri : (kept : Int) < (s.size : Int) := by omega
     have Hhas2 := Lib.hid (fun W h => has_any g (k * 6) f.set y W h)
     cases hfy : f.set y with
     | true =>
      rw [hfy] at Hhas2
      have Hnext := Lib.hid (hinv.onBack hc hstuck hf hd hfy)
      have Hm := Lib.hid (meas_onBack (pos := pos) (read := read) (k := k) (L := L) hkr)
      clear hinv hc hstuck hd hrk hfs
      go_wp2
      have hpd : decide (pos < L) = false := decide_eq_false (by omega)
      go_quiet (fail)
      obtain ⟨w2, hw2⟩ : ∃ w2, wr.drewN nq = w2 := ⟨_, rfl⟩
      have Hdr2 := Lib.hid (Hdr.out.drewN nq)
      rw [hw2] at Hdr2 ⊢
      have Hset2 := Lib.hid (Hdr2.out.els HE.out k f hf).1
      clear hw2
      go_wp2
      go_quiet (first | (go_at_call 57; exact Calls.quiet_of_same (Hhas2.out _ Hset2.out)))
      go_wp2
      exact ⟨⟨k + 1, some k, kept + 1, kept + 1, rfl, rfl, rfl, rfl, Hnext.out, Hdr2.out.drewN _⟩, Hm.out⟩
     | false =>
      rw [hfy] at Hhas2
      have Hv := Lib.hid (hinv.onFail hc hstuck (Or.inr ⟨k, f, y, rfl, hf, hd, hfy⟩))
      clear hinv hc hstuck hd hrk hfs
      go_wp2
      have hpd : decide (pos < L) = false := decide_eq_false (by omega)
      go_quiet (fail)
      obtain ⟨w2, hw2⟩ : ∃ w2, wr.drewN nq = w2 := ⟨_, rfl⟩
      have Hdr2 := Lib.hid (Hdr.out.drewN nq)
      rw [hw2] at Hdr2 ⊢
      have Hset2 := Lib.hid (Hdr2.out.els HE.out k f hf).1
      clear hw2
      go_wp2
      go_quiet (first | (go_at_call 57; exact Calls.quiet_of_same (Hhas2.out _ Hset2.out)))
      go_wp2
      go_ret
      exact ⟨by rw [Hv.out]; rfl, Hdr2.out.drewN _⟩
  ·have hrs : read = s.size := by have := hinv.read_le; have := Hsz.out; omega
   have hend : mB l t = mB (l.drop pos) [] := by
    rw [hrs, Hsz.out] at hinv
    exact hinv.onEnd
   have hpl : pos ≤ L := by rw [← HL.out]; exact hinv.pos_le
   have Hend := Lib.hid hend
   clear hinv hend
   go_wp2
   go_loop [5] (fun s5 => ∃ p : Nat, p ≤ L ∧ s5 = .int .i64 p ∧ mB l t = mB (l.drop p) []) (fun s5 => L - (intOf s5).toNat)
   case atStart => exact ⟨pos, hpl, rfl, Hend.out⟩
   case round =>
    obtain ⟨p, hp, rfl, hm⟩ := hrel
    have Hm := Lib.hid hm
    clear hm
    by_cases hlt : (p : Int) < (L : Int)
    ·have hpL : p < l.length := by rw [HL.out]; omega
     obtain ⟨e, he⟩ : ∃ e, l[p]? = some e := ⟨l[p], List.getElem?_eq_getElem hpL⟩
     obtain rfl := Ha.out (by omega)
     obtain ⟨_, hstar, _⟩ := Hdr.out.els HE.out p e he
     cases hes : e.star with
     | true =>
      rw [hes] at hstar
      have Hn := Lib.hid (mB_end_star he hes)
      go_wp2
      go_round
      case rel => exact ⟨p + 1, by omega, rfl, by rw [Hm.out, Hn.out]⟩
      case measure => simp [intOf]; omega
     | false =>
      rw [hes] at hstar
      have hv : mB l t = false := by rw [Hm.out]; exact mB_end_one he hes
      have Hv := Lib.hid hv
      have hne : ((p : Int) == (L : Int)) = false := by rw [beq_eq_false_iff_ne]; omega
      clear hv
      go_wp2
      go_ret
      exact ⟨by rw [Hv.out]; rfl, Hdr.out⟩
    ·obtain rfl : p = L := by omega
     have hv : mB l t = true := by rw [Hm.out, ← HL.out]; exact mB_end
     have Hv := Lib.hid hv
     clear hv
     go_wp2
     go_ret
     exact ⟨by rw [Hv.out]; rfl, Hdr.out⟩
end Go.Proofs.YtdlchlbngojljaaDoor.Gl
namespace Go.Proofs.YtdlchlbngojljaaDoor.Gl
open Go.RowKit
theorem info5 : (Tryd.prog.info? 5).map (fun i => (i.zero, i.size, i.bytes)) = some (some (.int .u8 0), 1, 1) := by kernel_rfl
def u8v (b : UInt8) : Value := .int .u8 (b.toNat : Int)
theorem grown_below {B : Nat} {w w1 : World} {v : Value} {k : Nat} {xs : List Value} {tmp : Obj} (hrow : w.ownsRow B 5 1 v k xs) (hB : B ≤ w.heap.size) (hg : (w.alloc tmp).grownBy w1 v.ownBlock) : Below B w w1 :=
 ((Below.refl B w).alloc hB tmp).grown hg (by simp; omega) fun j ej => by
  rcases hrow.2 with ⟨rfl, _⟩ | ⟨g, cap, cur, rfl, hb, _, _⟩
  ·simp [Value.ownBlock] at ej
  ·obtain rfl : g = j := by simpa [Value.ownBlock] using ej
   exact hb
theorem ownsRow_below {w w' : World} {B : Nat} {t : TypeId} {k n : Nat} {v : Value} {xs : List Value} (h : w.ownsRow B t k v n xs) (hb : Below w.heap.size w w') : w'.ownsRow B t k v n xs := by
 refine ⟨h.1, ?_⟩
 rcases h.2 with h1 | ⟨g, cap, cur, hv, hB, hg, rest⟩
 ·exact Or.inl h1
 ·refine Or.inr ⟨g, cap, cur, hv, hB, ?_, rest⟩
  rw [hb.block g, hg]
  exact (Array.getElem?_eq_some_iff.1 hg).1
set_option maxRecDepth 100000 in
theorem run_string_owned {w : World} {B : Nat} {v : Value} {l : List UInt8} (hrow : w.ownsRow B 5 1 v l.length (l.map u8v)) : (convert 101 9 v).run Tryd.prog w = .ok (.string ⟨l.toArray⟩) w := by
 rcases hrow.2 with ⟨rfl, h0⟩ | ⟨g, cap, cur, rfl, hb, hg, h1, h2, h3, h4⟩
 ·have hl : l = [] := List.length_eq_zero_iff.1 h0
  subst hl
  rw [run_convert_bytes_string (e := 5) w 101 9 none 0 0 Tryd.underlying101 Tryd.underlying5 Tryd.underlying9]
  simp [Conv.bytesToString, go_sem]
  rfl
 ·have := run_convert_bytes_arg (P := Tryd.prog) w 101 5 Tryd.underlying101 Tryd.underlying5 g 0 l.length cap (l.map fun b => (b.toNat : Int)) (by simp) (fun i hi => by
   rw [Nat.zero_add, cell_of_row w g i cur 5 (0, 0) hg]
   have h5 : (cur.toList.take (l.length * 1))[i]? = (l.map u8v)[i]? := by rw [h4]
   rw [Nat.mul_one, List.getElem?_take, if_pos hi] at h5
   rw [← Array.getElem?_toList, h5]
   simp [List.getElem?_eq_getElem hi, u8v]) 9 Tryd.underlying9
  rw [this]
  congr 2
  unfold strOfNums
  simp [List.map_map, Function.comp_def]
/-- The bytes that stand for themselves in front of the first other element. -/
def begB : List El → List UInt8
 | [] => []
 | e :: r => if e.self then (leastS e.set).getD 0 :: begB r else []
theorem begB_take {l : List El} {i : Nat} {e : El} (h : l[i]? = some e) (hs : e.self = false) (hall : ∀ (j : Nat) (f : El), j < i → l[j]? = some f → f.self = true) : begB l = (l.take i).map fun e => (leastS e.set).getD 0 := by
 induction l generalizing i with
 | nil => simp at h
 | cons f r ih =>
  cases i with
  | zero =>
   simp at h
   subst h
   simp [begB, hs]
  | succ i =>
   rw [begB, hall 0 f (by omega) rfl, if_pos rfl, ih (by simpa using h) (fun j g hj hg => hall (j + 1) g (by omega) (by simpa using hg))]
   simp
theorem begB_all {l : List El} (hall : ∀ (j : Nat) (f : El), l[j]? = some f → f.self = true) : begB l = l.map fun e => (leastS e.set).getD 0 := by
 induction l with
 | nil => rfl
 | cons f r ih =>
  rw [begB, hall 0 f rfl, if_pos rfl, ih (fun j g hg => hall (j + 1) g (by simpa using hg))]
  simp
def minB (e : El) : UInt8 := (leastS e.set).getD 0
theorem leastV_eq (S : UInt8 → Bool) : leastV S = .tuple #[.int .u8 (((leastS S).getD 0).toNat : Int), .bool (leastS S).isSome] := by
 unfold leastV
 cases leastS S <;> rfl
set_option maxHeartbeats 400000 in
set_option maxRecDepth 100000 in
theorem beginning_any (a : Option Addr) (cap g : Nat) (l : List El) (w : World) (ha : 0 < l.length → a = some ⟨g, 0, none⟩) (hE : ElsAt w g l) (hl : l.length ≤ 4096) (hT : TabAt w) (hg : g < w.heap.size) :
  Calls Tryd.prog 58 #[.slice a l.length cap] w (Bel (.string ⟨(begB l).toArray⟩) w) := by
 obtain ⟨i0, hi, hz0, hz1, hz2⟩ := info_parts info5
 obtain ⟨L, hL⟩ : ∃ L, l.length = L := ⟨_, rfl⟩
 have HE := Lib.hid hE
 have HL := Lib.hid hL
 have hLs : (L : Int) ≤ 4096 := by omega
 rw [hL] at ha ⊢
 have Ha := Lib.hid ha
 have HT := Lib.hid hT
 clear hE hL hl ha hT
 go_enter Tryd.func58, Tryd.ntmps58
 go_wp2
 go_loopw [3, 10] (fun s3 s10 wx => ∃ i : Nat, i ≤ L ∧ s10 = .int .i64 i ∧ wx.ownsRow w.heap.size 5 1 s3 i (((l.take i).map minB).map u8v) ∧ (∀ j f, j < i → l[j]? = some f → f.self = true) ∧ Below w.heap.size w wx) (fun _ s10 _ => L - (intOf s10).toNat)
 case atStart => exact ⟨0, by omega, rfl, World.ownsRow_nil w _ _ _, fun j _ hj _ => absurd hj (by omega), Below.refl _ _⟩
 case round =>
  obtain ⟨i, hi', rfl, hr, hall, hbel⟩ := hrel
  have Hr := Lib.hid hr
  have Hall := Lib.hid hall
  have Hbel := Lib.hid hbel
  clear hr hall hbel
  by_cases hlt : (i : Int) < (L : Int)
  ·have hiL : i < l.length := by rw [HL.out]; omega
   obtain ⟨e, he⟩ : ∃ e, l[i]? = some e := ⟨l[i], List.getElem?_eq_getElem hiL⟩
   obtain rfl := Ha.out (by omega)
   obtain ⟨hset, hstar, hself⟩ := HE.out i e he
   have c0 := (Hbel.out.cell (p := ⟨g, i * 6 + 0, none⟩) hg).trans (hset 0 (by omega))
   have c1 := (Hbel.out.cell (p := ⟨g, i * 6 + 1, none⟩) hg).trans (hset 1 (by omega))
   have c2 := (Hbel.out.cell (p := ⟨g, i * 6 + 2, none⟩) hg).trans (hset 2 (by omega))
   have c3 := (Hbel.out.cell (p := ⟨g, i * 6 + 3, none⟩) hg).trans (hset 3 (by omega))
   have c4 := (Hbel.out.cell (p := ⟨g, i * 6 + 4, none⟩) hg).trans hstar
   have c5 := (Hbel.out.cell (p := ⟨g, i * 6 + 5, none⟩) hg).trans hself
   rw [Nat.add_zero] at c0
   cases hes : e.self with
   | true =>
    rw [hes] at c5
    clear hset hstar hself
    have Hall1 := Lib.hid (show ∀ (j : Nat) (f : El), j < i + 1 → l[j]? = some f → f.self = true from fun j f hj hf => by
     rcases Nat.lt_or_ge j i with h1 | h1
     ·exact Hall.out j f h1 hf
     ·obtain rfl : j = i := by omega
      rw [he] at hf
      cases hf
      exact hes)
    have hstep : ((l.take (i + 1)).map minB).map u8v = ((l.take i).map minB).map u8v ++ [u8v (minB e)] := by
     rw [List.take_add_one, he]
     simp [Option.toList]
    have Hstep := Lib.hid hstep
    clear hstep
    go_wp2_with fail
    have hb1 : Below wr.heap.size wr (wr.alloc (.cells #[.int .u64 (wd e.set 0), .int .u64 (wd e.set 1), .int .u64 (wd e.set 2), .int .u64 (wd e.set 3), .bool e.star, .bool true] 108)) := (Below.refl _ _).alloc (Nat.le_refl _) _
    have hsz1 : (wr.alloc (.cells #[.int .u64 (wd e.set 0), .int .u64 (wd e.set 1), .int .u64 (wd e.set 2), .int .u64 (wd e.set 3), .bool e.star, .bool true] 108)).heap.size = wr.heap.size + 1 := by simp
    generalize wr.alloc (.cells #[.int .u64 (wd e.set 0), .int .u64 (wd e.set 1), .int .u64 (wd e.set 2), .int .u64 (wd e.set 3), .bool e.star, .bool true] 108) = W0 at hb1 hsz1 ⊢
    refine (least_any e.set W0 (HT.out.below (Hbel.out.trans (hb1.mono Hbel.out.size)))).mono ?_
    rintro ed W1 ⟨rfl, hb2⟩
    rw [leastV_eq]
    have hbW : Below wr.heap.size wr W1 := hb1.trans (hb2.mono (by omega))
    have hrW := ownsRow_below Hr.out hbW
    have HrW := Lib.hid hrW
    have HbW := Lib.hid (Hbel.out.trans (hbW.mono Hbel.out.size))
    have hBW : w.heap.size ≤ W1.heap.size := HbW.out.size
    have hm : (leastS e.set).getD 0 = minB e := rfl
    rw [hm]
    have hmi : ((minB e).toNat : Int) < 256 := by have := UInt8.toNat_lt (minB e); omega
    generalize (leastS e.set).isSome = ok
    clear hrW hb1 hb2 hsz1 hbW
    go_wp2_with (at_builtin; refine wpList_append_own _ rfl _ _ 101 rfl w.heap.size 5 i0 _ 1 1 Tryd.underlying101 hi hz0 hz1 hz2 rfl (by decide) _ _ _ rfl (HrW.out.alloc _) ⟨W1.heap.size, 0, none⟩ 1 1 [u8v (minB e)] rfl rfl (cell_one_new _ _ _) (by simp [u8v, Value.oneCell']) (by unfold maxLen; omega) (by omega) (by simp; omega) ?_; intro v' w1 hown' hgrow _; have Hown := Lib.hid hown'; have Hgrow := Lib.hid hgrow; clear hown' hgrow)
    go_roundw
    case rel => exact ⟨i + 1, by omega, by go_num, by rw [Hstep.out]; exact Hown.out, Hall1.out, HbW.out.trans (grown_below HrW.out hBW Hgrow.out)⟩
    case measure => simp [intOf]; omega
   | false =>
    rw [hes] at c5
    have hv : begB l = (l.take i).map minB := begB_take he hes Hall.out
    obtain ⟨bs, hbs⟩ : ∃ bs, (l.take i).map minB = bs := ⟨_, rfl⟩
    have hlen : bs.length = i := by rw [← hbs, List.length_map, List.length_take]; omega
    rw [hbs] at hv
    have hr := Hr.out
    rw [hbs, ← hlen] at hr
    have Hv := Lib.hid hv
    clear hset hstar hself hv hbs
    have hb1 : Below wr.heap.size wr (wr.alloc (.cells #[.int .u64 (wd e.set 0), .int .u64 (wd e.set 1), .int .u64 (wd e.set 2), .int .u64 (wd e.set 3), .bool e.star, .bool false] 108)) := (Below.refl _ _).alloc (Nat.le_refl _) _
    have hconv := run_string_owned (ownsRow_below hr hb1)
    have Hb1 := Lib.hid (Hbel.out.trans (hb1.mono Hbel.out.size))
    clear hb1 hr
    go_wp2
    go_ret
    exact ⟨by rw [Hv.out]; rfl, Hb1.out⟩
  ·obtain rfl : i = L := by omega
   have hv : begB l = l.map minB := begB_all fun j f hf => Hall.out j f (by have := (List.getElem?_eq_some_iff.1 hf).1; rw [HL.out] at this; exact this) hf
   have hr := Hr.out
   rw [← HL.out, List.take_length] at hr
   obtain ⟨bs, hbs⟩ : ∃ bs, l.map minB = bs := ⟨_, rfl⟩
   have hlen : bs.length = l.length := by rw [← hbs, List.length_map]
   rw [hbs] at hv hr
   rw [← hlen] at hr
   have hconv := run_string_owned hr
   have Hv := Lib.hid hv
   clear hr hv hbs
   go_wp2
   go_ret
   exact ⟨by rw [Hv.out]; rfl, Hbel.out⟩
end Go.Proofs.YtdlchlbngojljaaDoor.Gl
