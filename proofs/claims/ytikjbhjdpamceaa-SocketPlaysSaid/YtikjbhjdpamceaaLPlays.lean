/- The walk of SocketPlays. -/
import Derived.Test.YtikjbhjdpamceaaK
namespace Go.Proofs.Ytikjbhjdpamceaa
open Go.RowKit

theorem len_q {w : World} {sb rb cap : Nat} {l : List Ev} {lost : Bool} (h : Que w sb rb cap l lost) (W : World) (hW : W.heap = w.heap) : Calls Try.prog 17 #[.pointer (some ⟨sb, 0, none⟩)] W fun e w' => e = .returned (.int .i64 (l.length : Int)) ∧ w' = W :=
  (len_any (h.keep (w' := W) (by rw [hW]) (by rw [hW]))).mono fun _ _ ⟨h1, h2⟩ => ⟨h1, h2.symm⟩

theorem lost_g {w : World} {sb rb cap : Nat} {l : List Ev} {lost : Bool} (h : Que w sb rb cap l lost) (W : World) (hW : W.heap = w.heap) : Calls Try.prog 14 #[.pointer (some ⟨sb, 0, none⟩)] W fun e w' => e = .returned (.bool lost) ∧ Que w' sb rb cap l false ∧ Kp [sb] W w' ∧ w'.heap.size = W.heap.size :=
  lost_any (h.keep (w' := W) (by rw [hW]) (by rw [hW]))

/-- The reference's socket is set anew, then the socket is sent to. -/
theorem Pl.step {w0 w w13 w14 : World} {tb sb rb wb cap k : Nat} {l l' : List Ev} {sv v' : Value} {lost lost' : Bool} {o : Obj} (h : Pl w0 w tb sb rb wb cap k l sv lost) (hk : Kp [] w w13) (ho : EOwn w13 (wb + 1) v' l') (hw : (setW w13 wb cap v' lost').alloc o = w14) :
    Que w14 sb rb cap l lost ∧ (∀ x c, w.heap[x]? = some c → x ≠ wb → w14.heap[x]? = some c) ∧ (∀ w15, Que w15 sb rb cap l' lost' → Kp [sb, rb] w14 w15 → Pl w0 w15 tb sb rb wb cap k l' v' lost') := by
  have h1 := h.sw
  have h2 := h.rw
  have hwv := (hk.block wb (block_lt h.wv) (by simp)).trans h.wv
  have hsk : Kp [wb] w13 w14 := by rw [← hw]; exact setW_kp.alloc _
  have hw14 : w14.heap[wb]? = some (.cells #[.int .i64 (cap : Int), v', .bool lost'] 33 (0, 0)) := by
    rw [← hw]
    have hb := block_lt hwv
    exact (al_old _ _ (by have := (setW_kp (w := w13) (wb := wb) (cap := cap) (v := v') (lost := lost')).size; omega)).trans (setW_heap hwv)
  refine ⟨(h.que.kp hk (by simp) (by simp)).kp hsk (by simp; omega) (by simp; omega), fun x c hx hn => ?_, fun w15 hq hk15 => ?_⟩
  · have hxl := block_lt hx
    exact (hsk.block x (Nat.lt_of_lt_of_le hxl hk.size) (by simp; exact hn)).trans ((hk.block x hxl (by simp)).trans hx)
  · refine h.move hq ((hk15.block wb (block_lt hw14) (by simp; omega)).trans hw14) ((ho.kp hsk fun b hb => ?_).kp hk15 fun b hb => ?_) (((hk.mono (by simp)).trans (hsk.mono (by simp))).trans (hk15.mono (by simp)))
    · have := ho.ge b hb
      simp
      omega
    · have := ho.ge b hb
      simp
      omega
theorem ev5 {w : World} {vb : Nat} {e : Ev} (h : w.heap[vb]? = some (.cells (evC e).toArray 42 (0, 0))) : w.cell? ⟨vb, 0, none⟩ = some (.int .i64 e.seq) ∧ w.cell? ⟨vb, 1, none⟩ = some (.int .i64 e.act) ∧ w.cell? ⟨vb, 2, none⟩ = some (.int .i64 e.idx) ∧ w.cell? ⟨vb, 3, none⟩ = some (.string e.path) ∧ w.cell? ⟨vb, 4, none⟩ = some (.string e.old) := by
  rw [cell_of_row _ _ _ _ _ _ h, cell_of_row _ _ _ _ _ _ h, cell_of_row _ _ _ _ _ _ h, cell_of_row _ _ _ _ _ _ h, cell_of_row _ _ _ _ _ _ h]
  exact ⟨rfl, rfl, rfl, rfl, rfl⟩

theorem refSend_full5 {w : World} {cap : Nat} {a : Option Addr} {l : List Ev} {c : Nat} {lost : Bool} (s y z : Int) (p o : ByteArray) (hl : l.length = cap) :
    Calls Try.prog 15 #[.agg #[.int .i64 (cap : Int), .slice a l.length c, .bool lost], .agg #[.int .i64 s, .int .i64 y, .int .i64 z, .string p, .string o]] w fun r w' => r = .returned (.tuple #[.agg #[.int .i64 (cap : Int), .slice a l.length c, .bool true], .int .i64 61]) ∧ Kp [] w w' :=
  refSend_full ⟨s, y, z, p, o⟩ hl
theorem refSend_any5 {w : World} {cap : Nat} {sv : Value} {l : List Ev} {lost : Bool} (s y z : Int) (p o : ByteArray) (hl : l.length < cap) (hc : cap ≤ 256) (hv : EHas0 w sv l) :
    Calls Try.prog 15 #[.agg #[.int .i64 (cap : Int), sv, .bool lost], .agg #[.int .i64 s, .int .i64 y, .int .i64 z, .string p, .string o]] w fun r w' => ∃ v, r = .returned (.tuple #[.agg #[.int .i64 (cap : Int), v, .bool lost], .int .i64 0]) ∧ EOwn w' w.heap.size v (l ++ [⟨s, y, z, p, o⟩]) ∧ Kp [] w w' :=
  refSend_any ⟨s, y, z, p, o⟩ hl hc hv
theorem send_full5 {w : World} {sb rb cap : Nat} {l : List Ev} {lost : Bool} (s y z : Int) (p o : ByteArray) (h : Que w sb rb cap l lost) (hl : l.length = cap) :
    Calls Try.prog 16 #[.pointer (some ⟨sb, 0, none⟩), .agg #[.int .i64 s, .int .i64 y, .int .i64 z, .string p, .string o]] w fun r w' => r = .returned (.int .i64 61) ∧ Que w' sb rb cap l true ∧ Kp [sb] w w' :=
  send_full ⟨s, y, z, p, o⟩ h hl
theorem send_any5 {w : World} {sb rb cap : Nat} {l : List Ev} {lost : Bool} (s y z : Int) (p o : ByteArray) (h : Que w sb rb cap l lost) (hl : l.length < cap) :
    Calls Try.prog 16 #[.pointer (some ⟨sb, 0, none⟩), .agg #[.int .i64 s, .int .i64 y, .int .i64 z, .string p, .string o]] w fun r w' => r = .returned (.int .i64 0) ∧ Que w' sb rb cap (l ++ [⟨s, y, z, p, o⟩]) lost ∧ Kp [sb, rb] w w' :=
  send_any ⟨s, y, z, p, o⟩ h hl
theorem ev55 {w : World} {vb : Nat} {s y z : Int} {p o : ByteArray} (h : w.heap[vb]? = some (.cells #[.int .i64 s, .int .i64 y, .int .i64 z, .string p, .string o] 42 (0, 0))) : w.cell? ⟨vb, 0, none⟩ = some (.int .i64 s) ∧ w.cell? ⟨vb, 1, none⟩ = some (.int .i64 y) ∧ w.cell? ⟨vb, 2, none⟩ = some (.int .i64 z) ∧ w.cell? ⟨vb, 3, none⟩ = some (.string p) ∧ w.cell? ⟨vb, 4, none⟩ = some (.string o) :=
  ev5 (e := ⟨s, y, z, p, o⟩) h

theorem Pl.other {w0 w w' : World} {tb sb rb wb cap k vb : Nat} {l : List Ev} {sv : Value} {lost : Bool} (h : Pl w0 w tb sb rb wb cap k l sv lost) (hk : Kp [vb] w w') (hv : wb < vb) (ho : ∀ b, sv.ownBlock = some b → b < vb) : Pl w0 w' tb sb rb wb cap k l sv lost := by
  have h1 := h.t; have h2 := h.ts; have h3 := h.tr; have h4 := h.sw; have h5 := h.rw
  exact ⟨h.t, h.ts, h.tr, h.sw, h.rw, h.tape.kp hk (by simp; omega), h.que.kp hk (by simp; omega) (by simp; omega), (hk.block _ (block_lt h.wv) (by simp; omega)).trans h.wv, h.own.kp hk (fun b hb => by have := ho b hb; simp; omega), h.kp.up hk (by simp; omega)⟩
theorem ERow.kp {w w' : World} {b o : Nat} {l : List Ev} (h : ERow w b o l) (hk : Kp [] w w') (hb : b < w.heap.size) : ERow w' b o l := fun j x hx m v hv => by
  have := h j x hx m v hv
  simp only [World.cell?, hk.block b hb (by simp)] at this ⊢
  exact this
theorem frz5 {w : World} {vb : Nat} {c : Array Value} {t : TypeId} (h : w.heap[vb]? = some (.cells c t (0, 0))) : w.frozen? ⟨vb, 0, none⟩ = false ∧ w.frozen? ⟨vb, 1, none⟩ = false ∧ w.frozen? ⟨vb, 2, none⟩ = false ∧ w.frozen? ⟨vb, 3, none⟩ = false ∧ w.frozen? ⟨vb, 4, none⟩ = false := by
  simp [World.frozen?, h]
/-- An event stored into a variable. -/
def setE (w : World) (vb : Nat) (x : Ev) : World := ((((w.setCell ⟨vb, 0, none⟩ (.int .i64 x.seq)).setCell ⟨vb, 1, none⟩ (.int .i64 x.act)).setCell ⟨vb, 2, none⟩ (.int .i64 x.idx)).setCell ⟨vb, 3, none⟩ (.string x.path)).setCell ⟨vb, 4, none⟩ (.string x.old)
theorem setE_kp {w : World} {vb : Nat} {x : Ev} : Kp [vb] w (setE w vb x) :=
  (((((Kp.refl [vb] w).setCell (.inl (by simp)) _).setCell (.inl (by simp)) _).setCell (.inl (by simp)) _).setCell (.inl (by simp)) _).setCell (.inl (by simp)) _
theorem setE_heap {w : World} {vb : Nat} {x : Ev} {a b c d e : Value} (h : w.heap[vb]? = some (.cells #[a, b, c, d, e] 42 (0, 0))) : (setE w vb x).heap[vb]? = some (.cells #[.int .i64 x.seq, .int .i64 x.act, .int .i64 x.idx, .string x.path, .string x.old] 42 (0, 0)) := by
  simp [setE, World.setCell, Array.getElem?_modify, h]

set_option maxHeartbeats 4000000 in
set_option maxRecDepth 100000 in
theorem socketPlays_walk (a : Option Addr) (n c : Nat) (rv : Value) (w : World) (hi : Ints w w.heap.size (.slice a n c)) (raw : List Ev) (hraw : EHas w rv raw) (hrl : raw.length ≤ 9223372036854775807) : Calls Try.prog 3 #[.slice a n c, rv] w fun e w' => e = .returned (.bool true) ∧ Below w.heap.size w w' := by
  obtain ⟨ra, rc, rfl, hrr⟩ := hraw.form
  have ht0 := tape_new hi
  obtain ⟨w1, hw1⟩ : ∃ w1, w.alloc (.cells #[.slice a n c, .int .i64 0] 26) = w1 := ⟨_, rfl⟩
  rw [hw1] at ht0
  obtain ⟨tb, htb⟩ : ∃ tb, w.heap.size = tb := ⟨_, rfl⟩
  rw [htb] at ht0
  have hk1 : Kp [] w w1 := by rw [← hw1]; exact (Kp.refl [] w).alloc _
  have HN := Lib.hid (next_any tb 0 6 w1 (by omega) (by omega) (by omega) ht0)
  have HB := Lib.hid htb
  have K1 := Lib.hid hk1
  have HR := Lib.hid hrr
  clear ht0 hk1 hi hraw hrr
  go_enter Try.func3, Try.ntmps3
  go_wp2_with fail
  clear hw1 htb
  refine HN.out.mono ?_
  rintro e w2 ⟨r, hr, rfl, ht, hg, -⟩
  have T2 := Lib.hid ht
  have K2 := Lib.hid (K1.out.up (Kp.of_grown hg) (by have := HB.out; simp; omega))
  obtain ⟨cap, hcap⟩ : ∃ cap, r + 1 = cap := ⟨_, rfl⟩
  have hwr : IntKind.i64.wrap (1 + (r : Int)) = (cap : Int) := by rw [IntKind.wrap_i64]; omega
  have hc1 : 1 ≤ cap := by omega
  have hc2 : cap ≤ 256 := by omega
  clear hcap hr ht hg
  go_wp2_with fail
  clear hwr
  refine (new_any cap _ hc1 hc2).mono ?_
  rintro e w3 ⟨sb, rb, rfl, hq, hs1, hs2, hk⟩
  have Q3 := Lib.hid hq
  have T3 := Lib.hid (T2.out.kp hk (by simp))
  have K3 := Lib.hid (K2.out.trans hk)
  have hts : tb < sb := Nat.lt_of_lt_of_le T2.out.lt hs1
  have htr : tb < rb := Nat.lt_of_lt_of_le T2.out.lt hs2
  clear hq hk hs1 hs2
  go_wp2_with fail
  refine (refNew_any cap _ hc1 hc2).mono ?_
  rintro e w4 ⟨rfl, hk⟩
  have Q4 := Lib.hid (Q3.out.kp hk (by simp) (by simp))
  have T4 := Lib.hid (T3.out.kp hk (by simp))
  have K4 := Lib.hid (K3.out.trans hk)
  clear hk
  have hpl : Pl w (w4.alloc (.cells #[.int .i64 (cap : Int), .slice none 0 0, .bool false] 33)) tb sb rb w4.heap.size cap 1 [] (.slice none 0 0) false := by
    have hka := (Kp.refl [] w4).alloc (.cells #[.int .i64 (cap : Int), .slice none 0 0, .bool false] 33)
    exact ⟨by rw [HB.out]; exact Nat.le_refl _, hts, htr, Q4.out.lt.1, Q4.out.lt.2.1, T4.out.kp hka (by simp), Q4.out.kp hka (by simp) (by simp), al_new _ _, EOwn.nil _ _, K4.out.trans hka⟩
  have P4 := Lib.hid hpl
  clear hpl hts htr
  go_wp2_with fail
  refine (known_any _).mono ?_
  rintro e w5 ⟨rfl, hk⟩
  have P5 := Lib.hid (P4.out.kp0 hk)
  clear hk
  generalize w4.heap.size = wb at *
  go_wp2_with fail
  refine (next_any tb 1 40 _ (by omega) (by omega) (by omega) P5.out.tape).mono ?_
  rintro e w6 ⟨r, hr, rfl, ht, hg, -⟩
  have P6 := Lib.hid (P5.out.next ht (Kp.of_grown hg))
  clear ht hg
  go_wp2_with fail
  go_loopw [11] (fun s11 wx => ∃ (i k : Nat) (l : List Ev) (sv : Value) (lost : Bool), s11 = .int .i64 (i : Int) ∧ k + 4 * i ≤ 300 ∧ Pl w wx tb sb rb wb cap k l sv lost) (fun s11 _ => (intOf s11).toNat)
  case atStart => exact ⟨r, _, _, _, _, rfl, by omega, P6.out⟩
  case round =>
    obtain ⟨i, k, l, sv, lost, rfl, hki, hP⟩ := hrel
    have PP := Lib.hid hP
    clear hP
    by_cases hlt : 0 < i
    · have hlti : (0 : Int) < (i : Int) := by omega
      have hwi : IntKind.i64.wrap ((i : Int) - 1) = ((i - 1 : Nat) : Int) := by rw [IntKind.wrap_i64]; omega
      go_wp2_with fail
      refine (next_any tb k 6 _ (by omega) (by omega) (by omega) PP.out.tape).mono ?_
      rintro e w7 ⟨r, hr, rfl, ht, hg, -⟩
      have P7 := Lib.hid (PP.out.next ht (Kp.of_grown hg))
      clear ht hg
      by_cases r0 : r = 0
      · subst r0
        go_wp2_with fail
        refine (next_any tb (k + 1) 6 _ (by omega) (by omega) (by omega) P7.out.tape).mono ?_
        rintro e w8 ⟨r, hr2, rfl, ht, hg, -⟩
        have P8 := Lib.hid (P7.out.next ht (Kp.of_grown hg))
        clear ht hg
        obtain ⟨z, hz⟩ : ∃ z : Int, (r : Int) - 1 = z := ⟨_, rfl⟩
        have hwz : IntKind.i64.wrap ((r : Int) - 1) = z := by rw [IntKind.wrap_i64]; omega
        have hll := P8.out.que.lt.2.2.2
        obtain ⟨m, hm⟩ : ∃ m : Nat, min (max z 0) (l.length : Int) = (m : Int) := ⟨(min (max z 0) (l.length : Int)).toNat, by omega⟩
        have hm1 := Lib.hid hm
        have hm2 := Lib.hid (show max 0 (min z (l.length : Int)) = (m : Int) by omega)
        have hml : m ≤ l.length := by omega
        clear hz hm
        go_wp2_with fail
        clear hwz
        refine (receive_any z m P8.out.que hml hm1.out).mono ?_
        rintro e w9 ⟨g, rfl, hg9, hh, hq, hk9⟩
        have hwv9 := (hk9.block wb (block_lt P8.out.wv) (by have := P8.out.sw; have := P8.out.rw; simp; omega)).trans P8.out.wv
        have ho9 : EOwn w9 (wb + 1) sv l := P8.out.own.kp hk9 (fun b hb => by have := P8.out.own.ge b hb; have := P8.out.sw; have := P8.out.rw; simp; omega)
        have Q9 := Lib.hid hq
        have HG9 := Lib.hid hg9
        have W9 := Lib.hid hwv9
        have O9 := Lib.hid ho9
        have K9 := Lib.hid hk9
        have G9 := Lib.hid hh
        obtain ⟨y0, y1, y2⟩ := rs3 hwv9
        have hwb9 := block_lt hwv9
        clear hq hk9 hh hg9 hwv9 ho9
        go_wp2_with fail
        refine (refRecv_any z m (by omega) hml hm2.out O9.out.has0).mono ?_
        rintro e w10 ⟨v, u, rfl, hov, hou, hk10⟩
        obtain ⟨va, vc, hvv⟩ := hov.form
        have hwv10 := (hk10.block wb hwb9 (by simp)).trans W9.out
        have W10 := Lib.hid hwv10
        have OV := Lib.hid hov
        have OU := Lib.hid hou
        have K10 := Lib.hid hk10
        have HVV := Lib.hid hvv
        obtain ⟨x0, x1, x2⟩ := rs3 hwv10
        have fw := frz hwv10
        have hwb10 := block_lt hwv10
        have hg10 := Lib.hid ((hk10.block g (block_lt G9.out) (by simp)).trans G9.out)
        clear hov hou hk10 hwv10 y0 y1 y2 hwb9
        rw [hvv]
        clear hvv
        have hW11 : Pl w ((setW w10 wb cap (.slice va (l.length - m) vc) lost).alloc (.cells #[.int .i64 (cap : Int), .slice va (l.length - m) vc, .bool lost] 33)) tb sb rb wb cap (k + 1 + 1) (l.drop m) (.slice va (l.length - m) vc) lost ∧ EHas ((setW w10 wb cap (.slice va (l.length - m) vc) lost).alloc (.cells #[.int .i64 (cap : Int), .slice va (l.length - m) vc, .bool lost] 33)) (.slice (some ⟨g, 0, none⟩) m m) (l.take m) ∧ EHas ((setW w10 wb cap (.slice va (l.length - m) vc) lost).alloc (.cells #[.int .i64 (cap : Int), .slice va (l.length - m) vc, .bool lost] 33)) u (l.take m) := by
          have h1 := P8.out.sw
          have h2 := P8.out.rw
          have h3 := HG9.out
          have h4 := block_lt P8.out.wv
          have h5 := K9.out.size
          have hov := OV.out
          rw [HVV.out, List.length_drop] at hov
          have hsk : Kp [wb] w10 ((setW w10 wb cap (.slice va (l.length - m) vc) lost).alloc (.cells #[.int .i64 (cap : Int), .slice va (l.length - m) vc, .bool lost] 33)) := setW_kp.alloc _
          have hlm : (l.take m).length = m := by rw [List.length_take]; omega
          refine ⟨P8.out.move ((Q9.out.kp K10.out (by simp) (by simp)).kp hsk (by simp; omega) (by simp; omega)) ?_ ((hov.kp hsk fun b hb => ?_).down (by omega)) (((K9.out.mono (by simp)).trans (K10.out.mono (by simp))).trans (hsk.mono (by simp))), ?_, ?_⟩
          · exact (al_old _ _ (by have := (setW_kp (w := w10) (wb := wb) (cap := cap) (v := .slice va (l.length - m) vc) (lost := lost)).size; omega)).trans (setW_heap W10.out)
          · have := hov.ge b hb
            simp
            omega
          · have := EHas.block (c := m) ((hsk.block g (block_lt hg10.out) (by simp; omega)).trans hg10.out)
            rwa [hlm] at this
          · exact (OU.out.kp hsk fun b hb => by have := OU.out.ge b hb; simp; omega).has
        have P11 := Lib.hid hW11.1
        have E1 := Lib.hid hW11.2.1
        have E2 := Lib.hid hW11.2.2
        have hlm9 : (l.take m).length ≤ 9223372036854775807 := by rw [List.length_take]; omega
        clear hW11
        go_wp2_with fail
        refine (same_any hlm9 E1.out E2.out).mono ?_
        rintro e w12 ⟨rfl, hw12⟩
        have hp12 : Pl w w12 tb sb rb wb cap (k + 1 + 1) (l.drop m) (.slice va (l.length - m) vc) lost := by
          obtain ⟨nn, rfl⟩ := hw12
          exact P11.out.kp0 ((Kp.refl [] _).drew nn)
        have P12 := Lib.hid hp12
        clear hw12 hp12
        clear x0 x1 x2 fw hwb10 hlm9 hml hll
        obtain ⟨za, zc, hzv⟩ := P12.out.own.form
        have zf := (rs3 P12.out.wv).2.1
        rw [hzv] at zf
        have HQq := Lib.hid (len_q P12.out.que)
        clear hzv
        try go_wp2_with fail
        go_quiet ((go_at_call 17; exact Calls.quiet_of_same (HQq.out _ (by rfl))))
        have PE := Lib.hid (fun m => P12.out.kp0 ((Kp.refl [] _).drew m))
        clear zf
        go_wp2
        exact ⟨⟨i - 1, _, _, _, _, rfl, by omega, PE.out _⟩, by simp [intOf]; omega⟩
      by_cases r1 : r = 1
      · subst r1
        obtain ⟨x0, x1, x2⟩ := rs3 P7.out.wv
        have fw := frz P7.out.wv
        have hwb := block_lt P7.out.wv
        have HLo := Lib.hid (lost_g P7.out.que)
        have hne := Lib.hid (show wb ≠ sb by have := P7.out.sw; omega)
        go_wp2_with fail
        go_region_with (go_at_call 14; refine (HLo.out _ (by rfl)).mono ?_; rintro e w8 ⟨rfl, hq8, hk8, -⟩; have hw8 := (hk8.block wb hwb (by simp; exact hne.out)).trans P7.out.wv; have y2 := (rs3 hw8).2.2; have fy := frz hw8; have Q8 := Lib.hid hq8; have K8 := Lib.hid hk8; have W8 := Lib.hid hw8; clear hq8 hk8 hw8)
        all_goals
          have hwv9 : (w8.setCell ⟨wb, 2, none⟩ (.bool false)).heap[wb]? = some (.cells #[.int .i64 (cap : Int), sv, .bool false] 33 (0, 0)) := by simp [World.setCell, Array.getElem?_modify, W8.out]
          have hk9 : Kp [wb] w8 (w8.setCell ⟨wb, 2, none⟩ (.bool false)) := (Kp.refl [wb] w8).setCell (.inl (by simp)) _
          have hk79 : Kp [sb, rb, wb] w7 (w8.setCell ⟨wb, 2, none⟩ (.bool false)) := (((Kp.refl _ w7).drew 1).trans (K8.out.mono (by simp))).trans (hk9.mono (by simp))
          have P9 := Lib.hid (P7.out.move (Q8.out.kp hk9 (by have := P7.out.sw; simp; omega) (by have := P7.out.rw; simp; omega)) hwv9 (P7.out.own.kp hk79 fun b hb => by have := P7.out.own.ge b hb; have := P7.out.sw; have := P7.out.rw; simp; omega) hk79)
          clear hwv9 hk9 hk79
          obtain ⟨w9, hw9⟩ : ∃ w9, w8.setCell ⟨wb, 2, none⟩ (.bool false) = w9 := ⟨_, rfl⟩
          rw [hw9] at P9
          go_wp2_with fail
          clear hw9 y2 fy x0 x1 x2 fw hwb
          obtain ⟨za, zc, hzv⟩ := P9.out.own.form
          have zf := (rs3 P9.out.wv).2.1
          rw [hzv] at zf
          have HQq := Lib.hid (len_q P9.out.que)
          clear hzv
          try go_wp2_with fail
          go_quiet ((go_at_call 17; exact Calls.quiet_of_same (HQq.out _ (by rfl))))
          have PE := Lib.hid (fun m => P9.out.kp0 ((Kp.refl [] _).drew m))
          clear zf
          go_wp2
          exact ⟨⟨i - 1, _, _, _, _, rfl, by omega, PE.out _⟩, by simp [intOf]; omega⟩
      have hr0 : ((r : Int) == 0) = false := by simp; omega
      have hr1 : ((r : Int) == 1) = false := by simp; omega
      have hr0' : ¬ ((r : Int) = 0) := by omega
      have hr1' : ¬ ((r : Int) = 1) := by omega
      go_wp2_with fail
      refine (next_any tb (k + 1) 9 _ (by omega) (by omega) (by omega) P7.out.tape).mono ?_
      rintro e w8 ⟨r9, hr9, rfl, ht, hg, -⟩
      have P8 := Lib.hid (P7.out.next ht (Kp.of_grown hg))
      clear ht hg hr0 hr1 hr0' hr1' r0 r1 hr
      obtain ⟨va, vc, rfl⟩ := P8.out.own.form
      obtain ⟨w9, hw9⟩ : ∃ w9, w8.alloc (.cells #[.int .i64 (i : Int), .int .i64 0, .int .i64 (r9 : Int), .string ⟨#[]⟩, .string ⟨#[]⟩] 42) = w9 := ⟨_, rfl⟩
      have hv9 : w9.heap[w8.heap.size]? = some (.cells #[.int .i64 (i : Int), .int .i64 0, .int .i64 (r9 : Int), .string ⟨#[]⟩, .string ⟨#[]⟩] 42 (0, 0)) := by rw [← hw9]; exact al_new _ _
      have hp9 : Pl w w9 tb sb rb wb cap (k + 1 + 1) l (.slice va l.length vc) lost := by rw [← hw9]; exact P8.out.kp0 ((Kp.refl [] w8).alloc _)
      obtain ⟨vb, hvb⟩ : ∃ vb, w8.heap.size = vb := ⟨_, rfl⟩
      have hvw : wb < vb := by rw [← hvb]; exact block_lt P8.out.wv
      rw [hvb] at hv9
      have hwl8 := block_lt P8.out.wv
      have HW9 := Lib.hid hw9
      clear hw9
      have P9 := Lib.hid hp9
      have V9 := Lib.hid hv9
      have htw : tb < vb := by have := P8.out.ts; have := P8.out.sw; omega
      have hsw : sb < vb ∧ rb < vb := by have := P8.out.rw; have := P8.out.sw; omega
      have hll := P8.out.que.lt.2.2.2
      have hnv : vb ≠ wb := by omega
      clear hp9 hv9
      by_cases hraw0 : raw.length = 0
      · have hz0 : decide ((0 : Int) < (raw.length : Int)) = false := decide_eq_false (by omega)
        have hz1 : decide (0 < raw.length) = false := decide_eq_false (by omega)
        clear hraw0
        by_cases hfull : l.length = cap
        · have HFU := Lib.hid hfull
          clear hfull
          obtain ⟨y0, y1, y2⟩ := rs3 P8.out.wv
          have hwl := Lib.hid (block_lt P9.out.wv)
          have hvl := Lib.hid (block_lt V9.out)
          go_wp2_with fail
          rw [HW9.out]
          refine (refSend_full5 (i : Int) 0 (r9 : Int) ⟨#[]⟩ ⟨#[]⟩ HFU.out).mono ?_
          rintro e2 w13 ⟨rfl, hk13⟩
          have ho13 : EOwn w13 (wb + 1) (.slice va l.length vc) l := P9.out.own.kp hk13 (fun _ _ => by simp)
          obtain ⟨w14, hw14⟩ : ∃ w14, (((w13.setCell ⟨wb, 0, none⟩ (.int .i64 (cap : Int))).setCell ⟨wb, 1, none⟩ (.slice va l.length vc)).setCell ⟨wb, 2, none⟩ (.bool true)).alloc (.cells #[.int .i64 (cap : Int), .slice va l.length vc, .bool true] 33) = w14 := ⟨_, rfl⟩
          obtain ⟨hq14, hst14, hfin⟩ := P9.out.step (lost' := true) hk13 ho13 hw14
          obtain ⟨q0, q1, q2⟩ := rs3 ((hk13.block wb hwl.out (by simp)).trans P9.out.wv)
          have fq := frz ((hk13.block wb hwl.out (by simp)).trans P9.out.wv)
          have hwl13 := Nat.lt_of_lt_of_le hwl.out hk13.size
          have HST := Lib.hid hst14
          clear hst14
          obtain ⟨u0, u1, u2, u3, u9⟩ := ev55 (HST.out vb _ V9.out hnv)
          have Q14 := Lib.hid hq14
          have FIN := Lib.hid hfin
          clear hk13 ho13 hq14 hfin y0 y1 y2
          go_wp2_with fail
          clear hw14 q0 q1 q2 fq hwl13
          refine (send_full5 (i : Int) 0 (r9 : Int) ⟨#[]⟩ ⟨#[]⟩ Q14.out HFU.out).mono ?_
          rintro e3 w15 ⟨rfl, hq15, hk15⟩
          have P15 := Lib.hid (FIN.out w15 hq15 (hk15.mono (by simp)))
          clear hq15 hk15 u0 u1 u2 u3 u9
          obtain ⟨za, zc, hzv⟩ := P15.out.own.form
          have zf := (rs3 P15.out.wv).2.1
          rw [hzv] at zf
          have HQq := Lib.hid (len_q P15.out.que)
          clear hzv
          try go_wp2_with fail
          go_quiet ((go_at_call 17; exact Calls.quiet_of_same (HQq.out _ (by rfl))))
          have PE := Lib.hid (fun m => P15.out.kp0 ((Kp.refl [] _).drew m))
          clear zf
          go_wp2
          exact ⟨⟨i - 1, _, _, _, _, rfl, by omega, PE.out _⟩, by simp [intOf]; omega⟩
        · skip
          have hroom : l.length < cap := by omega
          clear hfull
          obtain ⟨y0, y1, y2⟩ := rs3 P8.out.wv
          have hwl := Lib.hid (block_lt P9.out.wv)
          have hvl := Lib.hid (block_lt V9.out)
          go_wp2_with fail
          rw [HW9.out]
          refine (refSend_any5 (i : Int) 0 (r9 : Int) ⟨#[]⟩ ⟨#[]⟩ hroom hc2 P9.out.own.has0).mono ?_
          rintro e2 w13 ⟨v', rfl, ho13, hk13⟩
          obtain ⟨va2, vc2, hv'⟩ := ho13.form
          rw [List.length_append, show [(⟨(i : Int), 0, (r9 : Int), ⟨#[]⟩, ⟨#[]⟩⟩ : Ev)].length = 1 from rfl] at hv'
          subst hv'
          have ho13' : EOwn w13 (wb + 1) (.slice va2 (l.length + 1) vc2) (l ++ [⟨(i : Int), 0, (r9 : Int), ⟨#[]⟩, ⟨#[]⟩⟩]) := ho13.down (Nat.succ_le_of_lt hwl.out)
          obtain ⟨w14, hw14⟩ : ∃ w14, (((w13.setCell ⟨wb, 0, none⟩ (.int .i64 (cap : Int))).setCell ⟨wb, 1, none⟩ (.slice va2 (l.length + 1) vc2)).setCell ⟨wb, 2, none⟩ (.bool lost)).alloc (.cells #[.int .i64 (cap : Int), .slice va2 (l.length + 1) vc2, .bool lost] 33) = w14 := ⟨_, rfl⟩
          obtain ⟨hq14, hst14, hfin⟩ := P9.out.step (lost' := lost) hk13 ho13' hw14
          obtain ⟨q0, q1, q2⟩ := rs3 ((hk13.block wb hwl.out (by simp)).trans P9.out.wv)
          have fq := frz ((hk13.block wb hwl.out (by simp)).trans P9.out.wv)
          have hwl13 := Nat.lt_of_lt_of_le hwl.out hk13.size
          have HST := Lib.hid hst14
          clear hst14
          obtain ⟨u0, u1, u2, u3, u9⟩ := ev55 (HST.out vb _ V9.out hnv)
          have Q14 := Lib.hid hq14
          have FIN := Lib.hid hfin
          clear hk13 ho13 ho13' hq14 hfin y0 y1 y2
          go_wp2_with fail
          clear hw14 q0 q1 q2 fq hwl13
          refine (send_any5 (i : Int) 0 (r9 : Int) ⟨#[]⟩ ⟨#[]⟩ Q14.out hroom).mono ?_
          rintro e3 w15 ⟨rfl, hq15, hk15⟩
          have P15 := Lib.hid (FIN.out w15 hq15 hk15)
          clear hq15 hk15 u0 u1 u2 u3 u9
          obtain ⟨za, zc, hzv⟩ := P15.out.own.form
          have zf := (rs3 P15.out.wv).2.1
          rw [hzv] at zf
          have HQq := Lib.hid (len_q P15.out.que)
          clear hzv
          try go_wp2_with fail
          go_quiet ((go_at_call 17; exact Calls.quiet_of_same (HQq.out _ (by rfl))))
          have PE := Lib.hid (fun m => P15.out.kp0 ((Kp.refl [] _).drew m))
          clear zf
          go_wp2
          exact ⟨⟨i - 1, _, _, _, _, rfl, by omega, PE.out _⟩, by simp [intOf]; omega⟩
      · have hz0 : (0 : Int) < (raw.length : Int) := by omega
        have hne : raw ≠ [] := fun h => by rw [h] at hraw0; exact hraw0 rfl
        obtain ⟨rwb, ro, rfl, hrb, hrow⟩ := HR.out hne
        have HROW := Lib.hid hrow
        have HOL := Lib.hid (fun b hb => hvb ▸ P8.out.own.lt b hb)
        have hr1 : 1 ≤ raw.length := by omega
        clear hraw0 hne hrow
        go_wp2_with fail
        rw [HW9.out]
        refine (next_any tb (k + 1 + 1) 2 _ (by omega) (by omega) (by omega) P9.out.tape).mono ?_
        rintro e w10 ⟨r2, hr2, rfl, ht, hg, -⟩
        have P10 := Lib.hid (P9.out.next ht (Kp.of_grown hg))
        have V10 := Lib.hid (((Kp.of_grown hg).block vb (block_lt V9.out) (by simp; omega)).trans V9.out)
        clear ht hg hz0
        by_cases r20 : r2 = 0
        · subst r20
          go_wp2_with fail
          refine (next_big tb (k + 1 + 1 + 1) raw.length _ hr1 hrl (by omega) P10.out.tape).mono ?_
          rintro e w11 ⟨r3, hr3, rfl, ht, hg, -⟩
          have P11 := Lib.hid (P10.out.next ht (Kp.of_grown hg))
          have V11 := Lib.hid (((Kp.of_grown hg).block vb (block_lt V10.out) (by simp; omega)).trans V10.out)
          clear ht hg
          obtain ⟨x, hx⟩ : ∃ x, raw[r3]? = some x := ⟨_, List.getElem?_eq_getElem hr3⟩
          obtain ⟨c0, c1, c2, c3, c4⟩ := (HROW.out.kp P11.out.kp hrb).cells hx
          obtain ⟨t0, t1, t2, t3, t4⟩ := ev55 V11.out
          have ft := frz5 V11.out
          have hr3i : (r3 : Int) < (raw.length : Int) := by omega
          have hr30 : (0 : Int) ≤ (r3 : Int) := by omega
          have hvl11 := block_lt V11.out
          obtain ⟨w12, hw12⟩ : ∃ w12, ((((w11.setCell ⟨vb, 0, none⟩ (.int .i64 x.seq)).setCell ⟨vb, 1, none⟩ (.int .i64 x.act)).setCell ⟨vb, 2, none⟩ (.int .i64 x.idx)).setCell ⟨vb, 3, none⟩ (.string x.path)).setCell ⟨vb, 4, none⟩ (.string x.old) = w12 := ⟨_, rfl⟩
          have hk12 : Kp [vb] w11 w12 := by rw [← hw12]; exact setE_kp
          have P12 := Lib.hid (P11.out.other hk12 hvw HOL.out)
          have V12 := Lib.hid (show w12.heap[vb]? = some (.cells #[.int .i64 x.seq, .int .i64 x.act, .int .i64 x.idx, .string x.path, .string x.old] 42 (0, 0)) by rw [← hw12]; exact setE_heap V11.out)
          clear hk12 hx
          by_cases hfull : l.length = cap
          · have HFU := Lib.hid hfull
            clear hfull
            obtain ⟨v0, v1, v2, v3, v4⟩ := ev55 V12.out
            obtain ⟨y0, y1, y2⟩ := rs3 P12.out.wv
            have hwl := Lib.hid (block_lt P12.out.wv)
            have hvl := Lib.hid (block_lt V12.out)
            go_wp2_with fail
            refine (refSend_full5 x.seq x.act x.idx x.path x.old HFU.out).mono ?_
            rintro e2 w13 ⟨rfl, hk13⟩
            have ho13 : EOwn w13 (wb + 1) (.slice va l.length vc) l := P12.out.own.kp hk13 (fun _ _ => by simp)
            obtain ⟨w14, hw14⟩ : ∃ w14, (((w13.setCell ⟨wb, 0, none⟩ (.int .i64 (cap : Int))).setCell ⟨wb, 1, none⟩ (.slice va l.length vc)).setCell ⟨wb, 2, none⟩ (.bool true)).alloc (.cells #[.int .i64 (cap : Int), .slice va l.length vc, .bool true] 33) = w14 := ⟨_, rfl⟩
            obtain ⟨hq14, hst14, hfin⟩ := P12.out.step (lost' := true) hk13 ho13 hw14
            obtain ⟨q0, q1, q2⟩ := rs3 ((hk13.block wb hwl.out (by simp)).trans P12.out.wv)
            have fq := frz ((hk13.block wb hwl.out (by simp)).trans P12.out.wv)
            have hwl13 := Nat.lt_of_lt_of_le hwl.out hk13.size
            have HST := Lib.hid hst14
            clear hst14
            obtain ⟨u0, u1, u2, u3, u9⟩ := ev55 (HST.out vb _ V12.out hnv)
            have Q14 := Lib.hid hq14
            have FIN := Lib.hid hfin
            clear hk13 ho13 hq14 hfin v0 v1 v2 v3 v4 y0 y1 y2
            go_wp2_with fail
            clear hw14 q0 q1 q2 fq hwl13
            refine (send_full5 x.seq x.act x.idx x.path x.old Q14.out HFU.out).mono ?_
            rintro e3 w15 ⟨rfl, hq15, hk15⟩
            have P15 := Lib.hid (FIN.out w15 hq15 (hk15.mono (by simp)))
            clear hq15 hk15 u0 u1 u2 u3 u9
            obtain ⟨za, zc, hzv⟩ := P15.out.own.form
            have zf := (rs3 P15.out.wv).2.1
            rw [hzv] at zf
            have HQq := Lib.hid (len_q P15.out.que)
            clear hzv
            try go_wp2_with fail
            go_quiet ((go_at_call 17; exact Calls.quiet_of_same (HQq.out _ (by rfl))))
            have PE := Lib.hid (fun m => P15.out.kp0 ((Kp.refl [] _).drew m))
            clear zf
            go_wp2
            exact ⟨⟨i - 1, _, _, _, _, rfl, by omega, PE.out _⟩, by simp [intOf]; omega⟩
          · skip
            have hroom : l.length < cap := by omega
            clear hfull
            obtain ⟨v0, v1, v2, v3, v4⟩ := ev55 V12.out
            obtain ⟨y0, y1, y2⟩ := rs3 P12.out.wv
            have hwl := Lib.hid (block_lt P12.out.wv)
            have hvl := Lib.hid (block_lt V12.out)
            go_wp2_with fail
            refine (refSend_any5 x.seq x.act x.idx x.path x.old hroom hc2 P12.out.own.has0).mono ?_
            rintro e2 w13 ⟨v', rfl, ho13, hk13⟩
            obtain ⟨va2, vc2, hv'⟩ := ho13.form
            rw [List.length_append, show [(⟨x.seq, x.act, x.idx, x.path, x.old⟩ : Ev)].length = 1 from rfl] at hv'
            subst hv'
            have ho13' : EOwn w13 (wb + 1) (.slice va2 (l.length + 1) vc2) (l ++ [⟨x.seq, x.act, x.idx, x.path, x.old⟩]) := ho13.down (Nat.succ_le_of_lt hwl.out)
            obtain ⟨w14, hw14⟩ : ∃ w14, (((w13.setCell ⟨wb, 0, none⟩ (.int .i64 (cap : Int))).setCell ⟨wb, 1, none⟩ (.slice va2 (l.length + 1) vc2)).setCell ⟨wb, 2, none⟩ (.bool lost)).alloc (.cells #[.int .i64 (cap : Int), .slice va2 (l.length + 1) vc2, .bool lost] 33) = w14 := ⟨_, rfl⟩
            obtain ⟨hq14, hst14, hfin⟩ := P12.out.step (lost' := lost) hk13 ho13' hw14
            obtain ⟨q0, q1, q2⟩ := rs3 ((hk13.block wb hwl.out (by simp)).trans P12.out.wv)
            have fq := frz ((hk13.block wb hwl.out (by simp)).trans P12.out.wv)
            have hwl13 := Nat.lt_of_lt_of_le hwl.out hk13.size
            have HST := Lib.hid hst14
            clear hst14
            obtain ⟨u0, u1, u2, u3, u9⟩ := ev55 (HST.out vb _ V12.out hnv)
            have Q14 := Lib.hid hq14
            have FIN := Lib.hid hfin
            clear hk13 ho13 ho13' hq14 hfin v0 v1 v2 v3 v4 y0 y1 y2
            go_wp2_with fail
            clear hw14 q0 q1 q2 fq hwl13
            refine (send_any5 x.seq x.act x.idx x.path x.old Q14.out hroom).mono ?_
            rintro e3 w15 ⟨rfl, hq15, hk15⟩
            have P15 := Lib.hid (FIN.out w15 hq15 hk15)
            clear hq15 hk15 u0 u1 u2 u3 u9
            obtain ⟨za, zc, hzv⟩ := P15.out.own.form
            have zf := (rs3 P15.out.wv).2.1
            rw [hzv] at zf
            have HQq := Lib.hid (len_q P15.out.que)
            clear hzv
            try go_wp2_with fail
            go_quiet ((go_at_call 17; exact Calls.quiet_of_same (HQq.out _ (by rfl))))
            have PE := Lib.hid (fun m => P15.out.kp0 ((Kp.refl [] _).drew m))
            clear zf
            go_wp2
            exact ⟨⟨i - 1, _, _, _, _, rfl, by omega, PE.out _⟩, by simp [intOf]; omega⟩
        · have hr20 : ((r2 : Int) == 0) = false := by simp; omega
          have hr20' : ¬ ((r2 : Int) = 0) := by omega
          by_cases hfull : l.length = cap
          · have HFU := Lib.hid hfull
            clear hfull
            obtain ⟨v0, v1, v2, v3, v4⟩ := ev55 V10.out
            obtain ⟨y0, y1, y2⟩ := rs3 P10.out.wv
            have hwl := Lib.hid (block_lt P10.out.wv)
            have hvl := Lib.hid (block_lt V10.out)
            go_wp2_with fail
            refine (refSend_full5 (i : Int) 0 (r9 : Int) ⟨#[]⟩ ⟨#[]⟩ HFU.out).mono ?_
            rintro e2 w13 ⟨rfl, hk13⟩
            have ho13 : EOwn w13 (wb + 1) (.slice va l.length vc) l := P10.out.own.kp hk13 (fun _ _ => by simp)
            obtain ⟨w14, hw14⟩ : ∃ w14, (((w13.setCell ⟨wb, 0, none⟩ (.int .i64 (cap : Int))).setCell ⟨wb, 1, none⟩ (.slice va l.length vc)).setCell ⟨wb, 2, none⟩ (.bool true)).alloc (.cells #[.int .i64 (cap : Int), .slice va l.length vc, .bool true] 33) = w14 := ⟨_, rfl⟩
            obtain ⟨hq14, hst14, hfin⟩ := P10.out.step (lost' := true) hk13 ho13 hw14
            obtain ⟨q0, q1, q2⟩ := rs3 ((hk13.block wb hwl.out (by simp)).trans P10.out.wv)
            have fq := frz ((hk13.block wb hwl.out (by simp)).trans P10.out.wv)
            have hwl13 := Nat.lt_of_lt_of_le hwl.out hk13.size
            have HST := Lib.hid hst14
            clear hst14
            obtain ⟨u0, u1, u2, u3, u9⟩ := ev55 (HST.out vb _ V10.out hnv)
            have Q14 := Lib.hid hq14
            have FIN := Lib.hid hfin
            clear hk13 ho13 hq14 hfin v0 v1 v2 v3 v4 y0 y1 y2
            go_wp2_with fail
            clear hw14 q0 q1 q2 fq hwl13
            refine (send_full5 (i : Int) 0 (r9 : Int) ⟨#[]⟩ ⟨#[]⟩ Q14.out HFU.out).mono ?_
            rintro e3 w15 ⟨rfl, hq15, hk15⟩
            have P15 := Lib.hid (FIN.out w15 hq15 (hk15.mono (by simp)))
            clear hq15 hk15 u0 u1 u2 u3 u9
            obtain ⟨za, zc, hzv⟩ := P15.out.own.form
            have zf := (rs3 P15.out.wv).2.1
            rw [hzv] at zf
            have HQq := Lib.hid (len_q P15.out.que)
            clear hzv
            try go_wp2_with fail
            go_quiet ((go_at_call 17; exact Calls.quiet_of_same (HQq.out _ (by rfl))))
            have PE := Lib.hid (fun m => P15.out.kp0 ((Kp.refl [] _).drew m))
            clear zf
            go_wp2
            exact ⟨⟨i - 1, _, _, _, _, rfl, by omega, PE.out _⟩, by simp [intOf]; omega⟩
          · skip
            have hroom : l.length < cap := by omega
            clear hfull
            obtain ⟨v0, v1, v2, v3, v4⟩ := ev55 V10.out
            obtain ⟨y0, y1, y2⟩ := rs3 P10.out.wv
            have hwl := Lib.hid (block_lt P10.out.wv)
            have hvl := Lib.hid (block_lt V10.out)
            go_wp2_with fail
            refine (refSend_any5 (i : Int) 0 (r9 : Int) ⟨#[]⟩ ⟨#[]⟩ hroom hc2 P10.out.own.has0).mono ?_
            rintro e2 w13 ⟨v', rfl, ho13, hk13⟩
            obtain ⟨va2, vc2, hv'⟩ := ho13.form
            rw [List.length_append, show [(⟨(i : Int), 0, (r9 : Int), ⟨#[]⟩, ⟨#[]⟩⟩ : Ev)].length = 1 from rfl] at hv'
            subst hv'
            have ho13' : EOwn w13 (wb + 1) (.slice va2 (l.length + 1) vc2) (l ++ [⟨(i : Int), 0, (r9 : Int), ⟨#[]⟩, ⟨#[]⟩⟩]) := ho13.down (Nat.succ_le_of_lt hwl.out)
            obtain ⟨w14, hw14⟩ : ∃ w14, (((w13.setCell ⟨wb, 0, none⟩ (.int .i64 (cap : Int))).setCell ⟨wb, 1, none⟩ (.slice va2 (l.length + 1) vc2)).setCell ⟨wb, 2, none⟩ (.bool lost)).alloc (.cells #[.int .i64 (cap : Int), .slice va2 (l.length + 1) vc2, .bool lost] 33) = w14 := ⟨_, rfl⟩
            obtain ⟨hq14, hst14, hfin⟩ := P10.out.step (lost' := lost) hk13 ho13' hw14
            obtain ⟨q0, q1, q2⟩ := rs3 ((hk13.block wb hwl.out (by simp)).trans P10.out.wv)
            have fq := frz ((hk13.block wb hwl.out (by simp)).trans P10.out.wv)
            have hwl13 := Nat.lt_of_lt_of_le hwl.out hk13.size
            have HST := Lib.hid hst14
            clear hst14
            obtain ⟨u0, u1, u2, u3, u9⟩ := ev55 (HST.out vb _ V10.out hnv)
            have Q14 := Lib.hid hq14
            have FIN := Lib.hid hfin
            clear hk13 ho13 ho13' hq14 hfin v0 v1 v2 v3 v4 y0 y1 y2
            go_wp2_with fail
            clear hw14 q0 q1 q2 fq hwl13
            refine (send_any5 (i : Int) 0 (r9 : Int) ⟨#[]⟩ ⟨#[]⟩ Q14.out hroom).mono ?_
            rintro e3 w15 ⟨rfl, hq15, hk15⟩
            have P15 := Lib.hid (FIN.out w15 hq15 hk15)
            clear hq15 hk15 u0 u1 u2 u3 u9
            obtain ⟨za, zc, hzv⟩ := P15.out.own.form
            have zf := (rs3 P15.out.wv).2.1
            rw [hzv] at zf
            have HQq := Lib.hid (len_q P15.out.que)
            clear hzv
            try go_wp2_with fail
            go_quiet ((go_at_call 17; exact Calls.quiet_of_same (HQq.out _ (by rfl))))
            have PE := Lib.hid (fun m => P15.out.kp0 ((Kp.refl [] _).drew m))
            clear zf
            go_wp2
            exact ⟨⟨i - 1, _, _, _, _, rfl, by omega, PE.out _⟩, by simp [intOf]; omega⟩
    · have hi0 : i = 0 := by omega
      subst hi0
      have hlti : ¬ ((0 : Int) < 0) := by omega
      go_wp2
      go_ret
      exact ⟨rfl, PP.out.kp.below (Nat.le_refl _) (by simp)⟩
end Go.Proofs.Ytikjbhjdpamceaa
