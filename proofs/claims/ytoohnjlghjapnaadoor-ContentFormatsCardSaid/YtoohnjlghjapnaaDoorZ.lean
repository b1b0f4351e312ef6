/- The reference: the text of a valid content. -/
import Derived.Test.YtoohnjlghjapnaaDoorO
namespace Go.Proofs.YtoohnjlghjapnaaDoor
open Go.RowKit

/-- What the reference's text leaves. -/
def RTextOK (d : Nat) : Prop := ∀ (Q : Nat → Prop) (c : Con) (a : Option Addr) (n : Nat) (W : World), valN d c = true → CHas Q W (.slice a c.inner.length n) c.inner →
  Calls Tryd.prog 27 #[.agg #[.int .i64 c.kind, .string (bs c.id), .string (bs c.lab), .int .i64 c.slot, .int .i64 c.tot, .int .i64 c.lst, .slice a c.inner.length n]] W fun r w' => r = .returned (.string (bs c.txt)) ∧ Kp [] W w'

set_option maxHeartbeats 4000000 in
set_option maxRecDepth 100000 in
theorem rtext1 {d : Nat} (hd : d ≤ 5) (_ht : RTextOK d) {Q : Nat → Prop} (c : Con) (a : Option Addr) (n : Nat) (w : World) (hk : c.kind = 1) (hv : valN (d + 1) c = true) (_hh : CHas Q w (.slice a c.inner.length n) c.inner) :
    Calls Tryd.prog 27 #[.agg #[.int .i64 c.kind, .string (bs c.id), .string (bs c.lab), .int .i64 c.slot, .int .i64 c.tot, .int .i64 c.lst, .slice a c.inner.length n]] w fun r w' => r = .returned (.string (bs c.txt)) ∧ Kp [] w w' := by
  have hv1 := hv
  unfold valN at hv1
  rw [if_neg (by rw [hk]; decide)] at hv1
  simp only [Bool.and_eq_true] at hv1
  obtain ⟨⟨hi, hho⟩, ha⟩ := hv1
  have h16 := inner_len hho
  have hil : (bs c.id).size ≤ 16 := isID_len hi
  have hll : (bs c.lab).size ≤ 16 := lab_len hho
  have htl := Nat.le_trans (txt_len (d + 1) c hv) (tlen6 (d + 1) (by omega))

  have htx : c.txt = wFs ++ 58 :: (c.id ++ 58 :: c.lab) := by rw [txt_eq, if_neg (by rw [hk]; decide), if_pos hk]; unfold headT; rw [if_pos hk]
  have HF := Lib.hid (show (⟨#[102, 115, 58]⟩ : ByteArray) ++ bs c.id ++ (⟨#[58]⟩ : ByteArray) ++ bs c.lab = bs c.txt by
    rw [show (⟨#[102, 115, 58]⟩ : ByteArray) = bs [102, 115, 58] from rfl, show (⟨#[58]⟩ : ByteArray) = bs [58] from rfl, bs_app, bs_app, bs_app, htx]; simp [wFs])
  rw [hk]
  generalize bs c.txt = R at *
  generalize bs c.id = I at *
  generalize bs c.lab = L at *
  clear hv ha hho hi htl htx hk
  go_enter Tryd.func27, Tryd.ntmps27
  go_wp2
  go_ret
  rw [HF.out]
  exact ⟨rfl, (Kp.refl [] w).alloc _⟩

set_option maxHeartbeats 4000000 in
set_option maxRecDepth 100000 in
theorem rtext2 {d : Nat} (hd : d ≤ 5) (ht : RTextOK d) {Q : Nat → Prop} (c : Con) (a : Option Addr) (n : Nat) (w : World) (hk : c.kind = 2) (hv : valN (d + 1) c = true) (hh : CHas Q w (.slice a c.inner.length n) c.inner) :
    Calls Tryd.prog 27 #[.agg #[.int .i64 c.kind, .string (bs c.id), .string (bs c.lab), .int .i64 c.slot, .int .i64 c.tot, .int .i64 c.lst, .slice a c.inner.length n]] w fun r w' => r = .returned (.string (bs c.txt)) ∧ Kp [] w w' := by
  have hv1 := hv
  unfold valN at hv1
  rw [if_neg (by rw [hk]; decide)] at hv1
  simp only [Bool.and_eq_true] at hv1
  obtain ⟨⟨hi, hho⟩, ha⟩ := hv1
  have h16 := inner_len hho
  have hil : (bs c.id).size ≤ 16 := isID_len hi
  have hll : (bs c.lab).size ≤ 16 := lab_len hho
  have htl := Nat.le_trans (txt_len (d + 1) c hv) (tlen6 (d + 1) (by omega))

  obtain ⟨i0, hi0, hz0, hz1, hz2⟩ := info_parts info9
  obtain ⟨w1, hw1⟩ : ∃ w1, w.alloc (.cells #[.int .i64 c.kind, .string (bs c.id), .string (bs c.lab), .int .i64 c.slot, .int .i64 c.tot, .int .i64 c.lst, .slice a c.inner.length n] 24) = w1 := ⟨_, rfl⟩
  have hk1 : Kp [] w w1 := by rw [← hw1]; exact (Kp.refl [] w).alloc _
  have hb1 : BoxV w.heap.size (.int .i64 c.kind) (.string (bs c.id)) (.string (bs c.lab)) (.int .i64 c.slot) (.int .i64 c.tot) (.int .i64 c.lst) (.slice a c.inner.length n) w1 := by rw [← hw1]; exact al_new _ _
  have hs1 : w1.heap.size = w.heap.size + 1 := by rw [← hw1]; exact al_size _ _
  obtain ⟨A, hA⟩ : ∃ A, w.heap.size = A := ⟨_, rfl⟩
  rw [hA] at hb1 hs1
  have hne : c.inner ≠ [] := by
    intro e
    unfold headOK at hho
    simp [hk, e] at hho
  have htx : c.txt = headT c ++ 40 :: (joinC (c.inner.map Con.txt) ++ [41]) := by rw [txt_eq, if_neg (by rw [hk]; decide), if_neg (by rw [hk]; decide)]
  have HFIN := Lib.hid (show bs (headT c) ++ (⟨#[40]⟩ : ByteArray) ++ bs (joinC (c.inner.map Con.txt)) ++ (⟨#[41]⟩ : ByteArray) = bs c.txt by
    rw [show (⟨#[40]⟩ : ByteArray) = bs [40] from rfl, show (⟨#[41]⟩ : ByteArray) = bs [41] from rfl, bs_app, bs_app, bs_app, htx]; simp)
  have hhl : (bs (headT c)).size ≤ 60 := head_len hi hho
  have hjl : (bs (joinC (c.inner.map Con.txt))).size ≤ 4000000000 := by
    rw [bs_size]
    have := htl
    rw [htx, List.length_append, List.length_cons, List.length_append] at this
    omega
  unfold headOK at hho
  simp only [hk, show ((2 : Int) = 1) = False by decide, if_true, if_false, Bool.and_eq_true, slotsOK_iff] at hho
  obtain ⟨⟨⟨-, g1, g2, g3, g4⟩, g56⟩, -⟩ := hho
  have g5 : 1 ≤ c.lst ∧ c.lst ≤ c.tot := of_decide_eq_true g56
  have HSa := Lib.hid (fun W => itoa_small c.slot g3 (by omega) W)
  have HSb := Lib.hid (fun W => itoa_small c.tot g1 g2 W)
  have HSc := Lib.hid (fun W => itoa_small c.lst g5.1 (by omega) W)
  have hsc : (bs (dec2 c.lst)).size ≤ 2 := by rw [bs_size]; exact dec2_len c.lst
  have hsl : (bs (dec2 c.slot)).size ≤ 2 := by rw [bs_size]; exact dec2_len c.slot
  have hst : (bs (dec2 c.tot)).size ≤ 2 := by rw [bs_size]; exact dec2_len c.tot
  have HF := Lib.hid (show (⟨#[114, 97, 105, 100, 58]⟩ : ByteArray) ++ bs c.id ++ (⟨#[58]⟩ : ByteArray) ++ bs (dec2 c.slot) ++ (⟨#[47]⟩ : ByteArray) ++ bs (dec2 c.tot) ++ (⟨#[47]⟩ : ByteArray) ++ bs (dec2 c.lst) = bs (headT c) by
    rw [show (⟨#[114, 97, 105, 100, 58]⟩ : ByteArray) = bs [114, 97, 105, 100, 58] from rfl, show (⟨#[58]⟩ : ByteArray) = bs [58] from rfl, show (⟨#[47]⟩ : ByteArray) = bs [47] from rfl, bs_app, bs_app, bs_app, bs_app, bs_app, bs_app, bs_app]
    unfold headT
    rw [if_neg (by rw [hk]; decide), if_pos hk]
    simp [wRaid])
  obtain ⟨a', n', he, hrow⟩ := hh.form
  cases he
  obtain ⟨b, o, rfl, h1, h2, hq, hb, hr⟩ := hrow hne
  have HR := Lib.hid hr
  have HQ := Lib.hid hq
  have HT := Lib.hid ht
  have HV := Lib.hid ha
  have K1 := Lib.hid hk1
  have B1 := Lib.hid hb1
  have HS1 := Lib.hid hs1
  have HA := Lib.hid hA
  have HNE := Lib.hid hne
  obtain ⟨c0, c1, c2, c3, c4, c5, c6⟩ := hb1.cells
  generalize bs c.txt = R at *
  obtain ⟨H, hHe⟩ : ∃ H, bs (headT c) = H := ⟨_, rfl⟩
  rw [hHe] at HFIN HF hhl
  clear hHe
  generalize bs (dec2 c.slot) = Sa at *
  generalize bs (dec2 c.tot) = Sb at *
  generalize bs (dec2 c.lst) = Sc at *
  clear g1 g2 g3 g4 g56 g5
  generalize bs c.id = I at *
  generalize bs c.lab = L at *
  rw [hk] at *
  have q0 : (⟨#[114, 97, 105, 100, 58]⟩ : ByteArray).size = 5 := rfl
  have q2 : (⟨#[58]⟩ : ByteArray).size = 1 := rfl
  have q4 : (⟨#[47]⟩ : ByteArray).size = 1 := rfl
  have q6 : (⟨#[47]⟩ : ByteArray).size = 1 := rfl
  have r1 := fun W : World => @run_add_str Tryd.prog W (⟨#[114, 97, 105, 100, 58]⟩ : ByteArray) I (by show _ + _ ≤ _; omega)
  obtain ⟨X1, x1⟩ : ∃ X, (⟨#[114, 97, 105, 100, 58]⟩ : ByteArray) ++ I = X := ⟨_, rfl⟩
  have z1 : X1.size ≤ 21 := by rw [← x1, ByteArray.size_append]; show _ + _ ≤ _; omega
  rw [x1] at r1 HF
  clear x1
  have r2 := fun W : World => @run_add_str Tryd.prog W X1 (⟨#[58]⟩ : ByteArray) (by show _ + _ ≤ _; omega)
  obtain ⟨X2, x2⟩ : ∃ X, X1 ++ (⟨#[58]⟩ : ByteArray) = X := ⟨_, rfl⟩
  have z2 : X2.size ≤ 22 := by rw [← x2, ByteArray.size_append]; show _ + _ ≤ _; omega
  rw [x2] at r2 HF
  clear x2
  have r3 := fun W : World => @run_add_str Tryd.prog W X2 Sa (by show _ + _ ≤ _; omega)
  obtain ⟨X3, x3⟩ : ∃ X, X2 ++ Sa = X := ⟨_, rfl⟩
  have z3 : X3.size ≤ 24 := by rw [← x3, ByteArray.size_append]; show _ + _ ≤ _; omega
  rw [x3] at r3 HF
  clear x3
  have r4 := fun W : World => @run_add_str Tryd.prog W X3 (⟨#[47]⟩ : ByteArray) (by show _ + _ ≤ _; omega)
  obtain ⟨X4, x4⟩ : ∃ X, X3 ++ (⟨#[47]⟩ : ByteArray) = X := ⟨_, rfl⟩
  have z4 : X4.size ≤ 25 := by rw [← x4, ByteArray.size_append]; show _ + _ ≤ _; omega
  rw [x4] at r4 HF
  clear x4
  have r5 := fun W : World => @run_add_str Tryd.prog W X4 Sb (by show _ + _ ≤ _; omega)
  obtain ⟨X5, x5⟩ : ∃ X, X4 ++ Sb = X := ⟨_, rfl⟩
  have z5 : X5.size ≤ 27 := by rw [← x5, ByteArray.size_append]; show _ + _ ≤ _; omega
  rw [x5] at r5 HF
  clear x5
  have r6 := fun W : World => @run_add_str Tryd.prog W X5 (⟨#[47]⟩ : ByteArray) (by show _ + _ ≤ _; omega)
  obtain ⟨X6, x6⟩ : ∃ X, X5 ++ (⟨#[47]⟩ : ByteArray) = X := ⟨_, rfl⟩
  have z6 : X6.size ≤ 28 := by rw [← x6, ByteArray.size_append]; show _ + _ ≤ _; omega
  rw [x6] at r6 HF
  clear x6
  have r7 := fun W : World => @run_add_str Tryd.prog W X6 Sc (by show _ + _ ≤ _; omega)
  obtain ⟨X7, x7⟩ : ∃ X, X6 ++ Sc = X := ⟨_, rfl⟩
  have z7 : X7.size ≤ 30 := by rw [← x7, ByteArray.size_append]; show _ + _ ≤ _; omega
  rw [x7] at r7 HF
  clear x7
  clear q0 q2 q4 q6
  clear hr hrow h2 hq ht hv hk1 hh hne h1 hb1 hs1 ha hi htl htx hk
  go_enter Tryd.func27, Tryd.ntmps27
  go_wp2
  go_quiet (first | (go_at_call 36; exact Calls.quiet_of_same (HSa.out _)) | (go_at_call 36; exact Calls.quiet_of_same (HSb.out _)) | (go_at_call 36; exact Calls.quiet_of_same (HSc.out _)))
  go_wp2
  rw [HF.out]
  clear c0 c1 c2 c3 c4 c5 c6 hw1 
  go_loopw [4, 5] (fun s4 s5 wx => ∃ i : Nat, i ≤ c.inner.length ∧ s5 = .int .i64 (i : Int) ∧ SOwn wx (A + 1) s4 ((c.inner.take i).map Con.txt) ∧ Kp [] w1 wx) (fun _ s5 _ => c.inner.length - (intOf s5).toNat)
  case atStart => exact ⟨0, Nat.zero_le _, rfl, World.ownsRow_nil _ _ _ _, (Kp.refl [] w1).drew _⟩
  case round =>
    rename_i wr
    obtain ⟨i, hi, rfl, hown, hkp⟩ := hrel
    obtain ⟨sa, sc, rfl⟩ := hown.form
    obtain ⟨c0, c1, c2, c3, c4, c5, c6⟩ := (B1.out.kp hkp (by simp)).cells
    have KP := Lib.hid hkp
    have HO := Lib.hid hown
    have hll : ((c.inner.take i).map Con.txt).length = i := by rw [List.length_map, List.length_take]; omega
    clear hkp hown
    rw [hll] at HO
    by_cases hlt : i < c.inner.length
    · have hiz : (i : Int) < (c.inner.length : Int) := by omega
      obtain ⟨x, hx⟩ : ∃ x, c.inner[i]? = some x := ⟨_, List.getElem?_eq_getElem hlt⟩
      have hroww := CRow.keep (K1.out.trans KP.out).size (fun k hk (hq : Q k) => ⟨hq, (K1.out.trans KP.out).block k hk (by simp)⟩) _ b o HQ.out hb HR.out
      obtain ⟨v, hvx, htx, e0, e1, e2, e3, e4, e5, e6⟩ := hroww.cells hx
      obtain ⟨a2, n2, rfl, _⟩ := hvx.form
      have hvalx : valN d x = true := List.all_eq_true.1 HV.out x (List.mem_of_getElem? hx)
      have HC := Lib.hid (HT.out Q x a2 n2 wr hvalx hvx)
      have HX := Lib.hid hx
      have hwi : IntKind.i64.wrap ((i : Int) + 1) = ((i + 1 : Nat) : Int) := by rw [IntKind.wrap_i64]; omega
      have HLL := Lib.hid hll
      clear hx hroww hvx htx hvalx hll
      go_wp2_with fail
      refine HC.out.mono ?_
      rintro r w3 ⟨rfl, hk3⟩
      have K3 := Lib.hid (KP.out.trans hk3)
      have O3 := Lib.hid (HO.out.kp hk3 (by simp))
      have hal : Kp [] w3 (w3.alloc (.cells #[.string (bs x.txt)] 9)) := (Kp.refl [] w3).alloc _
      have O4 := Lib.hid (O3.out.kp hal (by simp))
      have K4 := Lib.hid (K3.out.trans hal)
      have HBW := Lib.hid (show A + 1 ≤ (w3.alloc (.cells #[.string (bs x.txt)] 9)).heap.size by have := K4.out.size; have := HS1.out; omega)
      clear hk3 hal e0 e1 e2 e3 e4 e5 e6
      have O5 : (w3.alloc (.cells #[.string (bs x.txt)] 9)).ownsRow (A + 1) 9 1 (.slice sa i sc) i (strsC ((c.inner.take i).map Con.txt)) := by have := O4.out; unfold SOwn at this; rw [HLL.out] at this; exact this
      have O6 := Lib.hid O5
      clear O5
      go_wp2_with (at_builtin; refine wpList_append_own _ rfl _ _ 42 rfl (A + 1) 9 i0 _ 1 16 Tryd.underlying42 hi0 hz0 hz1 hz2 rfl (by decide) _ _ _ rfl O6.out ⟨w3.heap.size, 0, none⟩ 1 1 [.string (bs x.txt)] rfl rfl (cell_one _ _ _) (by simp [Value.oneCell']) (by unfold maxLen; omega) (by omega) HBW.out ?_; intro v8 w8 hown8 hgrow8 _; have O8 := Lib.hid hown8; have G8 := Lib.hid hgrow8; clear hown8 hgrow8)
      refine ⟨⟨i + 1, by omega, rfl, ?_, grown_kp (B := A + 1) G8.out (fun k e => (O6.out.lt k e).1) K4.out (by rw [HS1.out]; exact Nat.le_refl _)⟩, by simp [intOf]; omega⟩
      unfold SOwn
      rw [List.take_add_one, HX.out]
      have := O8.out
      simp only [Option.toList_some, List.map_append, List.map_cons, List.map_nil, List.length_append, List.length_cons, List.length_nil, HLL.out, strsC] at this ⊢
      exact this
    · have hie : i = c.inner.length := by omega
      subst hie
      have hiz : ¬ ((c.inner.length : Int) < (c.inner.length : Int)) := by omega
      have hown := HO.out
      rw [List.take_length] at hown
      have hlen : (c.inner.map Con.txt).length = c.inner.length := List.length_map _
      have hpos : 0 < c.inner.length := List.length_pos_iff.2 HNE.out
      have hcells := fun g (hg : (Value.slice sa c.inner.length sc).ownBlock = some g) => World.ownsRow.cells hown hg
      rcases hown.2 with ⟨h0, _⟩ | ⟨g, cap, cur, hv, hB, hh, hc, -, -, -⟩
      · injection h0 with _ h0 _
        omega
      · injection hv with hv1 hv2 hv3
        subst hv1; subst hv3
        rw [hlen] at hc
        have hcl : ∀ (j : Nat) x, ((c.inner.map Con.txt).map bs)[j]? = some x → wr.cell? ⟨g, 0 + j, none⟩ = some (.string x) := fun j x hx => by
          rw [List.getElem?_map] at hx
          obtain ⟨s, hs, rfl⟩ := Option.map_eq_some_iff.1 hx
          have := hcells g rfl j (.string (bs s)) (by unfold strsC; rw [List.getElem?_map, hs]; rfl)
          rwa [add00] at this
        have hmm : ((c.inner.map Con.txt).map bs).map (·.data.toList) = c.inner.map Con.txt := by
          rw [List.map_map]
          exact List.map_id'' (fun _ => rfl) _
        have hsep : (⟨#[44]⟩ : ByteArray).data.toList = [44] := rfl
        have hJ := Tryd.strings_Join g 0 sc ((c.inner.map Con.txt).map bs) ⟨#[44]⟩ wr hcl (block_lt hh) (by rw [List.length_map, hlen]; omega) (by rw [List.length_map, hlen]; exact hc) (by rw [hmm, hsep, join_joinC]; rw [bs_size] at hjl; omega)
        rw [hmm, hsep, join_joinC, List.length_map, hlen] at hJ
        have HJ := Lib.hid (show Calls Tryd.prog 38 #[.slice (some ⟨g, 0, none⟩) c.inner.length sc, .string ⟨#[44]⟩] wr fun e w' => e = .returned (.string (bs (joinC (c.inner.map Con.txt)))) ∧ Below wr.heap.size wr w' from hJ)
        obtain ⟨J, hJe⟩ : ∃ J, bs (joinC (c.inner.map Con.txt)) = J := ⟨_, rfl⟩
        rw [hJe] at HFIN HJ hjl
        have HHF := Lib.hid HFIN.out
        clear hJe
        clear hcl hJ hh hcells hown hmm hll hlen hv2
        go_wp2_with fail
        refine HJ.out.mono ?_
        rintro r w2 ⟨rfl, hb2⟩
        have K2 := Lib.hid ((K1.out.trans KP.out).trans (Kp.of_below hb2))
        clear hb2
        go_wp2
        go_ret
        rw [HFIN.out]
        exact ⟨rfl, K2.out⟩

set_option maxHeartbeats 4000000 in
set_option maxRecDepth 100000 in
theorem rtext3 {d : Nat} (hd : d ≤ 5) (ht : RTextOK d) {Q : Nat → Prop} (c : Con) (a : Option Addr) (n : Nat) (w : World) (hk : c.kind = 3) (hv : valN (d + 1) c = true) (hh : CHas Q w (.slice a c.inner.length n) c.inner) :
    Calls Tryd.prog 27 #[.agg #[.int .i64 c.kind, .string (bs c.id), .string (bs c.lab), .int .i64 c.slot, .int .i64 c.tot, .int .i64 c.lst, .slice a c.inner.length n]] w fun r w' => r = .returned (.string (bs c.txt)) ∧ Kp [] w w' := by
  have hv1 := hv
  unfold valN at hv1
  rw [if_neg (by rw [hk]; decide)] at hv1
  simp only [Bool.and_eq_true] at hv1
  obtain ⟨⟨hi, hho⟩, ha⟩ := hv1
  have h16 := inner_len hho
  have hil : (bs c.id).size ≤ 16 := isID_len hi
  have hll : (bs c.lab).size ≤ 16 := lab_len hho
  have htl := Nat.le_trans (txt_len (d + 1) c hv) (tlen6 (d + 1) (by omega))

  obtain ⟨i0, hi0, hz0, hz1, hz2⟩ := info_parts info9
  obtain ⟨w1, hw1⟩ : ∃ w1, w.alloc (.cells #[.int .i64 c.kind, .string (bs c.id), .string (bs c.lab), .int .i64 c.slot, .int .i64 c.tot, .int .i64 c.lst, .slice a c.inner.length n] 24) = w1 := ⟨_, rfl⟩
  have hk1 : Kp [] w w1 := by rw [← hw1]; exact (Kp.refl [] w).alloc _
  have hb1 : BoxV w.heap.size (.int .i64 c.kind) (.string (bs c.id)) (.string (bs c.lab)) (.int .i64 c.slot) (.int .i64 c.tot) (.int .i64 c.lst) (.slice a c.inner.length n) w1 := by rw [← hw1]; exact al_new _ _
  have hs1 : w1.heap.size = w.heap.size + 1 := by rw [← hw1]; exact al_size _ _
  obtain ⟨A, hA⟩ : ∃ A, w.heap.size = A := ⟨_, rfl⟩
  rw [hA] at hb1 hs1
  have hne : c.inner ≠ [] := by
    intro e
    unfold headOK at hho
    simp [hk, e] at hho
  have htx : c.txt = headT c ++ 40 :: (joinC (c.inner.map Con.txt) ++ [41]) := by rw [txt_eq, if_neg (by rw [hk]; decide), if_neg (by rw [hk]; decide)]
  have HFIN := Lib.hid (show bs (headT c) ++ (⟨#[40]⟩ : ByteArray) ++ bs (joinC (c.inner.map Con.txt)) ++ (⟨#[41]⟩ : ByteArray) = bs c.txt by
    rw [show (⟨#[40]⟩ : ByteArray) = bs [40] from rfl, show (⟨#[41]⟩ : ByteArray) = bs [41] from rfl, bs_app, bs_app, bs_app, htx]; simp)
  have hhl : (bs (headT c)).size ≤ 60 := head_len hi hho
  have hjl : (bs (joinC (c.inner.map Con.txt))).size ≤ 4000000000 := by
    rw [bs_size]
    have := htl
    rw [htx, List.length_append, List.length_cons, List.length_append] at this
    omega
  have HF := Lib.hid (show (⟨#[99, 114, 121, 112, 116, 58]⟩ : ByteArray) ++ bs c.id = bs (headT c) by
    rw [show (⟨#[99, 114, 121, 112, 116, 58]⟩ : ByteArray) = bs [99, 114, 121, 112, 116, 58] from rfl, bs_app]
    unfold headT
    rw [if_neg (by rw [hk]; decide), if_neg (by rw [hk]; decide), if_pos hk]
    simp [wCrypt])
  obtain ⟨a', n', he, hrow⟩ := hh.form
  cases he
  obtain ⟨b, o, rfl, h1, h2, hq, hb, hr⟩ := hrow hne
  have HR := Lib.hid hr
  have HQ := Lib.hid hq
  have HT := Lib.hid ht
  have HV := Lib.hid ha
  have K1 := Lib.hid hk1
  have B1 := Lib.hid hb1
  have HS1 := Lib.hid hs1
  have HA := Lib.hid hA
  have HNE := Lib.hid hne
  obtain ⟨c0, c1, c2, c3, c4, c5, c6⟩ := hb1.cells
  generalize bs c.txt = R at *
  obtain ⟨H, hHe⟩ : ∃ H, bs (headT c) = H := ⟨_, rfl⟩
  rw [hHe] at HFIN HF hhl
  clear hHe

  generalize bs c.id = I at *
  generalize bs c.lab = L at *
  rw [hk] at *
  have q0 : (⟨#[99, 114, 121, 112, 116, 58]⟩ : ByteArray).size = 6 := rfl
  have r1 := fun W : World => @run_add_str Tryd.prog W (⟨#[99, 114, 121, 112, 116, 58]⟩ : ByteArray) I (by show _ + _ ≤ _; omega)
  obtain ⟨X1, x1⟩ : ∃ X, (⟨#[99, 114, 121, 112, 116, 58]⟩ : ByteArray) ++ I = X := ⟨_, rfl⟩
  have z1 : X1.size ≤ 22 := by rw [← x1, ByteArray.size_append]; show _ + _ ≤ _; omega
  rw [x1] at r1 HF
  clear x1
  clear q0
  clear hr hrow h2 hq ht hv hk1 hh hne h1 hb1 hs1 ha hho hi htl htx hk
  go_enter Tryd.func27, Tryd.ntmps27
  go_wp2
  rw [HF.out]
  clear c0 c1 c2 c3 c4 c5 c6 hw1 
  go_loopw [4, 5] (fun s4 s5 wx => ∃ i : Nat, i ≤ c.inner.length ∧ s5 = .int .i64 (i : Int) ∧ SOwn wx (A + 1) s4 ((c.inner.take i).map Con.txt) ∧ Kp [] w1 wx) (fun _ s5 _ => c.inner.length - (intOf s5).toNat)
  case atStart => exact ⟨0, Nat.zero_le _, rfl, World.ownsRow_nil _ _ _ _, Kp.refl [] w1⟩
  case round =>
    rename_i wr
    obtain ⟨i, hi, rfl, hown, hkp⟩ := hrel
    obtain ⟨sa, sc, rfl⟩ := hown.form
    obtain ⟨c0, c1, c2, c3, c4, c5, c6⟩ := (B1.out.kp hkp (by simp)).cells
    have KP := Lib.hid hkp
    have HO := Lib.hid hown
    have hll : ((c.inner.take i).map Con.txt).length = i := by rw [List.length_map, List.length_take]; omega
    clear hkp hown
    rw [hll] at HO
    by_cases hlt : i < c.inner.length
    · have hiz : (i : Int) < (c.inner.length : Int) := by omega
      obtain ⟨x, hx⟩ : ∃ x, c.inner[i]? = some x := ⟨_, List.getElem?_eq_getElem hlt⟩
      have hroww := CRow.keep (K1.out.trans KP.out).size (fun k hk (hq : Q k) => ⟨hq, (K1.out.trans KP.out).block k hk (by simp)⟩) _ b o HQ.out hb HR.out
      obtain ⟨v, hvx, htx, e0, e1, e2, e3, e4, e5, e6⟩ := hroww.cells hx
      obtain ⟨a2, n2, rfl, _⟩ := hvx.form
      have hvalx : valN d x = true := List.all_eq_true.1 HV.out x (List.mem_of_getElem? hx)
      have HC := Lib.hid (HT.out Q x a2 n2 wr hvalx hvx)
      have HX := Lib.hid hx
      have hwi : IntKind.i64.wrap ((i : Int) + 1) = ((i + 1 : Nat) : Int) := by rw [IntKind.wrap_i64]; omega
      have HLL := Lib.hid hll
      clear hx hroww hvx htx hvalx hll
      go_wp2_with fail
      refine HC.out.mono ?_
      rintro r w3 ⟨rfl, hk3⟩
      have K3 := Lib.hid (KP.out.trans hk3)
      have O3 := Lib.hid (HO.out.kp hk3 (by simp))
      have hal : Kp [] w3 (w3.alloc (.cells #[.string (bs x.txt)] 9)) := (Kp.refl [] w3).alloc _
      have O4 := Lib.hid (O3.out.kp hal (by simp))
      have K4 := Lib.hid (K3.out.trans hal)
      have HBW := Lib.hid (show A + 1 ≤ (w3.alloc (.cells #[.string (bs x.txt)] 9)).heap.size by have := K4.out.size; have := HS1.out; omega)
      clear hk3 hal e0 e1 e2 e3 e4 e5 e6
      have O5 : (w3.alloc (.cells #[.string (bs x.txt)] 9)).ownsRow (A + 1) 9 1 (.slice sa i sc) i (strsC ((c.inner.take i).map Con.txt)) := by have := O4.out; unfold SOwn at this; rw [HLL.out] at this; exact this
      have O6 := Lib.hid O5
      clear O5
      go_wp2_with (at_builtin; refine wpList_append_own _ rfl _ _ 42 rfl (A + 1) 9 i0 _ 1 16 Tryd.underlying42 hi0 hz0 hz1 hz2 rfl (by decide) _ _ _ rfl O6.out ⟨w3.heap.size, 0, none⟩ 1 1 [.string (bs x.txt)] rfl rfl (cell_one _ _ _) (by simp [Value.oneCell']) (by unfold maxLen; omega) (by omega) HBW.out ?_; intro v8 w8 hown8 hgrow8 _; have O8 := Lib.hid hown8; have G8 := Lib.hid hgrow8; clear hown8 hgrow8)
      refine ⟨⟨i + 1, by omega, rfl, ?_, grown_kp (B := A + 1) G8.out (fun k e => (O6.out.lt k e).1) K4.out (by rw [HS1.out]; exact Nat.le_refl _)⟩, by simp [intOf]; omega⟩
      unfold SOwn
      rw [List.take_add_one, HX.out]
      have := O8.out
      simp only [Option.toList_some, List.map_append, List.map_cons, List.map_nil, List.length_append, List.length_cons, List.length_nil, HLL.out, strsC] at this ⊢
      exact this
    · have hie : i = c.inner.length := by omega
      subst hie
      have hiz : ¬ ((c.inner.length : Int) < (c.inner.length : Int)) := by omega
      have hown := HO.out
      rw [List.take_length] at hown
      have hlen : (c.inner.map Con.txt).length = c.inner.length := List.length_map _
      have hpos : 0 < c.inner.length := List.length_pos_iff.2 HNE.out
      have hcells := fun g (hg : (Value.slice sa c.inner.length sc).ownBlock = some g) => World.ownsRow.cells hown hg
      rcases hown.2 with ⟨h0, _⟩ | ⟨g, cap, cur, hv, hB, hh, hc, -, -, -⟩
      · injection h0 with _ h0 _
        omega
      · injection hv with hv1 hv2 hv3
        subst hv1; subst hv3
        rw [hlen] at hc
        have hcl : ∀ (j : Nat) x, ((c.inner.map Con.txt).map bs)[j]? = some x → wr.cell? ⟨g, 0 + j, none⟩ = some (.string x) := fun j x hx => by
          rw [List.getElem?_map] at hx
          obtain ⟨s, hs, rfl⟩ := Option.map_eq_some_iff.1 hx
          have := hcells g rfl j (.string (bs s)) (by unfold strsC; rw [List.getElem?_map, hs]; rfl)
          rwa [add00] at this
        have hmm : ((c.inner.map Con.txt).map bs).map (·.data.toList) = c.inner.map Con.txt := by
          rw [List.map_map]
          exact List.map_id'' (fun _ => rfl) _
        have hsep : (⟨#[44]⟩ : ByteArray).data.toList = [44] := rfl
        have hJ := Tryd.strings_Join g 0 sc ((c.inner.map Con.txt).map bs) ⟨#[44]⟩ wr hcl (block_lt hh) (by rw [List.length_map, hlen]; omega) (by rw [List.length_map, hlen]; exact hc) (by rw [hmm, hsep, join_joinC]; rw [bs_size] at hjl; omega)
        rw [hmm, hsep, join_joinC, List.length_map, hlen] at hJ
        have HJ := Lib.hid (show Calls Tryd.prog 38 #[.slice (some ⟨g, 0, none⟩) c.inner.length sc, .string ⟨#[44]⟩] wr fun e w' => e = .returned (.string (bs (joinC (c.inner.map Con.txt)))) ∧ Below wr.heap.size wr w' from hJ)
        obtain ⟨J, hJe⟩ : ∃ J, bs (joinC (c.inner.map Con.txt)) = J := ⟨_, rfl⟩
        rw [hJe] at HFIN HJ hjl
        have HHF := Lib.hid HFIN.out
        clear hJe
        clear hcl hJ hh hcells hown hmm hll hlen hv2
        go_wp2_with fail
        refine HJ.out.mono ?_
        rintro r w2 ⟨rfl, hb2⟩
        have K2 := Lib.hid ((K1.out.trans KP.out).trans (Kp.of_below hb2))
        clear hb2
        go_wp2
        go_ret
        rw [HFIN.out]
        exact ⟨rfl, K2.out⟩

set_option maxHeartbeats 4000000 in
set_option maxRecDepth 100000 in
theorem rtext4 {d : Nat} (hd : d ≤ 5) (ht : RTextOK d) {Q : Nat → Prop} (c : Con) (a : Option Addr) (n : Nat) (w : World) (hk : c.kind = 4) (hv : valN (d + 1) c = true) (hh : CHas Q w (.slice a c.inner.length n) c.inner) :
    Calls Tryd.prog 27 #[.agg #[.int .i64 c.kind, .string (bs c.id), .string (bs c.lab), .int .i64 c.slot, .int .i64 c.tot, .int .i64 c.lst, .slice a c.inner.length n]] w fun r w' => r = .returned (.string (bs c.txt)) ∧ Kp [] w w' := by
  have hv1 := hv
  unfold valN at hv1
  rw [if_neg (by rw [hk]; decide)] at hv1
  simp only [Bool.and_eq_true] at hv1
  obtain ⟨⟨hi, hho⟩, ha⟩ := hv1
  have h16 := inner_len hho
  have hil : (bs c.id).size ≤ 16 := isID_len hi
  have hll : (bs c.lab).size ≤ 16 := lab_len hho
  have htl := Nat.le_trans (txt_len (d + 1) c hv) (tlen6 (d + 1) (by omega))

  obtain ⟨i0, hi0, hz0, hz1, hz2⟩ := info_parts info9
  obtain ⟨w1, hw1⟩ : ∃ w1, w.alloc (.cells #[.int .i64 c.kind, .string (bs c.id), .string (bs c.lab), .int .i64 c.slot, .int .i64 c.tot, .int .i64 c.lst, .slice a c.inner.length n] 24) = w1 := ⟨_, rfl⟩
  have hk1 : Kp [] w w1 := by rw [← hw1]; exact (Kp.refl [] w).alloc _
  have hb1 : BoxV w.heap.size (.int .i64 c.kind) (.string (bs c.id)) (.string (bs c.lab)) (.int .i64 c.slot) (.int .i64 c.tot) (.int .i64 c.lst) (.slice a c.inner.length n) w1 := by rw [← hw1]; exact al_new _ _
  have hs1 : w1.heap.size = w.heap.size + 1 := by rw [← hw1]; exact al_size _ _
  obtain ⟨A, hA⟩ : ∃ A, w.heap.size = A := ⟨_, rfl⟩
  rw [hA] at hb1 hs1
  have hne : c.inner ≠ [] := by
    intro e
    unfold headOK at hho
    simp [hk, e] at hho
  have htx : c.txt = headT c ++ 40 :: (joinC (c.inner.map Con.txt) ++ [41]) := by rw [txt_eq, if_neg (by rw [hk]; decide), if_neg (by rw [hk]; decide)]
  have HFIN := Lib.hid (show bs (headT c) ++ (⟨#[40]⟩ : ByteArray) ++ bs (joinC (c.inner.map Con.txt)) ++ (⟨#[41]⟩ : ByteArray) = bs c.txt by
    rw [show (⟨#[40]⟩ : ByteArray) = bs [40] from rfl, show (⟨#[41]⟩ : ByteArray) = bs [41] from rfl, bs_app, bs_app, bs_app, htx]; simp)
  have hhl : (bs (headT c)).size ≤ 60 := head_len hi hho
  have hjl : (bs (joinC (c.inner.map Con.txt))).size ≤ 4000000000 := by
    rw [bs_size]
    have := htl
    rw [htx, List.length_append, List.length_cons, List.length_append] at this
    omega
  unfold headOK at hho
  simp only [hk, show ((4 : Int) = 1) = False by decide, show ((4 : Int) = 2) = False by decide, show ((4 : Int) = 3) = False by decide, if_true, if_false, Bool.and_eq_true, slotsOK_iff] at hho
  obtain ⟨⟨⟨-, g1, g2, g3, g4⟩, -⟩, -⟩ := hho
  have HSa := Lib.hid (fun W => itoa_small c.slot g3 (by omega) W)
  have HSb := Lib.hid (fun W => itoa_small c.tot g1 g2 W)
  have hsl : (bs (dec2 c.slot)).size ≤ 2 := by rw [bs_size]; exact dec2_len c.slot
  have hst : (bs (dec2 c.tot)).size ≤ 2 := by rw [bs_size]; exact dec2_len c.tot
  have HF := Lib.hid (show (⟨#[112, 118, 58]⟩ : ByteArray) ++ bs c.id ++ (⟨#[58]⟩ : ByteArray) ++ bs (dec2 c.slot) ++ (⟨#[47]⟩ : ByteArray) ++ bs (dec2 c.tot) = bs (headT c) by
    rw [show (⟨#[112, 118, 58]⟩ : ByteArray) = bs [112, 118, 58] from rfl, show (⟨#[58]⟩ : ByteArray) = bs [58] from rfl, show (⟨#[47]⟩ : ByteArray) = bs [47] from rfl, bs_app, bs_app, bs_app, bs_app, bs_app]
    unfold headT
    rw [if_neg (by rw [hk]; decide), if_neg (by rw [hk]; decide), if_neg (by rw [hk]; decide), if_pos hk]
    simp [wPv])
  obtain ⟨a', n', he, hrow⟩ := hh.form
  cases he
  obtain ⟨b, o, rfl, h1, h2, hq, hb, hr⟩ := hrow hne
  have HR := Lib.hid hr
  have HQ := Lib.hid hq
  have HT := Lib.hid ht
  have HV := Lib.hid ha
  have K1 := Lib.hid hk1
  have B1 := Lib.hid hb1
  have HS1 := Lib.hid hs1
  have HA := Lib.hid hA
  have HNE := Lib.hid hne
  obtain ⟨c0, c1, c2, c3, c4, c5, c6⟩ := hb1.cells
  generalize bs c.txt = R at *
  obtain ⟨H, hHe⟩ : ∃ H, bs (headT c) = H := ⟨_, rfl⟩
  rw [hHe] at HFIN HF hhl
  clear hHe
  generalize bs (dec2 c.slot) = Sa at *
  generalize bs (dec2 c.tot) = Sb at *
  clear g1 g2 g3 g4
  generalize bs c.id = I at *
  generalize bs c.lab = L at *
  rw [hk] at *
  have q0 : (⟨#[112, 118, 58]⟩ : ByteArray).size = 3 := rfl
  have q2 : (⟨#[58]⟩ : ByteArray).size = 1 := rfl
  have q4 : (⟨#[47]⟩ : ByteArray).size = 1 := rfl
  have r1 := fun W : World => @run_add_str Tryd.prog W (⟨#[112, 118, 58]⟩ : ByteArray) I (by show _ + _ ≤ _; omega)
  obtain ⟨X1, x1⟩ : ∃ X, (⟨#[112, 118, 58]⟩ : ByteArray) ++ I = X := ⟨_, rfl⟩
  have z1 : X1.size ≤ 19 := by rw [← x1, ByteArray.size_append]; show _ + _ ≤ _; omega
  rw [x1] at r1 HF
  clear x1
  have r2 := fun W : World => @run_add_str Tryd.prog W X1 (⟨#[58]⟩ : ByteArray) (by show _ + _ ≤ _; omega)
  obtain ⟨X2, x2⟩ : ∃ X, X1 ++ (⟨#[58]⟩ : ByteArray) = X := ⟨_, rfl⟩
  have z2 : X2.size ≤ 20 := by rw [← x2, ByteArray.size_append]; show _ + _ ≤ _; omega
  rw [x2] at r2 HF
  clear x2
  have r3 := fun W : World => @run_add_str Tryd.prog W X2 Sa (by show _ + _ ≤ _; omega)
  obtain ⟨X3, x3⟩ : ∃ X, X2 ++ Sa = X := ⟨_, rfl⟩
  have z3 : X3.size ≤ 22 := by rw [← x3, ByteArray.size_append]; show _ + _ ≤ _; omega
  rw [x3] at r3 HF
  clear x3
  have r4 := fun W : World => @run_add_str Tryd.prog W X3 (⟨#[47]⟩ : ByteArray) (by show _ + _ ≤ _; omega)
  obtain ⟨X4, x4⟩ : ∃ X, X3 ++ (⟨#[47]⟩ : ByteArray) = X := ⟨_, rfl⟩
  have z4 : X4.size ≤ 23 := by rw [← x4, ByteArray.size_append]; show _ + _ ≤ _; omega
  rw [x4] at r4 HF
  clear x4
  have r5 := fun W : World => @run_add_str Tryd.prog W X4 Sb (by show _ + _ ≤ _; omega)
  obtain ⟨X5, x5⟩ : ∃ X, X4 ++ Sb = X := ⟨_, rfl⟩
  have z5 : X5.size ≤ 25 := by rw [← x5, ByteArray.size_append]; show _ + _ ≤ _; omega
  rw [x5] at r5 HF
  clear x5
  clear q0 q2 q4
  clear hr hrow h2 hq ht hv hk1 hh hne h1 hb1 hs1 ha hi htl htx hk
  go_enter Tryd.func27, Tryd.ntmps27
  go_wp2
  go_quiet (first | (go_at_call 36; exact Calls.quiet_of_same (HSa.out _)) | (go_at_call 36; exact Calls.quiet_of_same (HSb.out _)))
  go_wp2
  rw [HF.out]
  clear c0 c1 c2 c3 c4 c5 c6 hw1 
  go_loopw [4, 5] (fun s4 s5 wx => ∃ i : Nat, i ≤ c.inner.length ∧ s5 = .int .i64 (i : Int) ∧ SOwn wx (A + 1) s4 ((c.inner.take i).map Con.txt) ∧ Kp [] w1 wx) (fun _ s5 _ => c.inner.length - (intOf s5).toNat)
  case atStart => exact ⟨0, Nat.zero_le _, rfl, World.ownsRow_nil _ _ _ _, (Kp.refl [] w1).drew _⟩
  case round =>
    rename_i wr
    obtain ⟨i, hi, rfl, hown, hkp⟩ := hrel
    obtain ⟨sa, sc, rfl⟩ := hown.form
    obtain ⟨c0, c1, c2, c3, c4, c5, c6⟩ := (B1.out.kp hkp (by simp)).cells
    have KP := Lib.hid hkp
    have HO := Lib.hid hown
    have hll : ((c.inner.take i).map Con.txt).length = i := by rw [List.length_map, List.length_take]; omega
    clear hkp hown
    rw [hll] at HO
    by_cases hlt : i < c.inner.length
    · have hiz : (i : Int) < (c.inner.length : Int) := by omega
      obtain ⟨x, hx⟩ : ∃ x, c.inner[i]? = some x := ⟨_, List.getElem?_eq_getElem hlt⟩
      have hroww := CRow.keep (K1.out.trans KP.out).size (fun k hk (hq : Q k) => ⟨hq, (K1.out.trans KP.out).block k hk (by simp)⟩) _ b o HQ.out hb HR.out
      obtain ⟨v, hvx, htx, e0, e1, e2, e3, e4, e5, e6⟩ := hroww.cells hx
      obtain ⟨a2, n2, rfl, _⟩ := hvx.form
      have hvalx : valN d x = true := List.all_eq_true.1 HV.out x (List.mem_of_getElem? hx)
      have HC := Lib.hid (HT.out Q x a2 n2 wr hvalx hvx)
      have HX := Lib.hid hx
      have hwi : IntKind.i64.wrap ((i : Int) + 1) = ((i + 1 : Nat) : Int) := by rw [IntKind.wrap_i64]; omega
      have HLL := Lib.hid hll
      clear hx hroww hvx htx hvalx hll
      go_wp2_with fail
      refine HC.out.mono ?_
      rintro r w3 ⟨rfl, hk3⟩
      have K3 := Lib.hid (KP.out.trans hk3)
      have O3 := Lib.hid (HO.out.kp hk3 (by simp))
      have hal : Kp [] w3 (w3.alloc (.cells #[.string (bs x.txt)] 9)) := (Kp.refl [] w3).alloc _
      have O4 := Lib.hid (O3.out.kp hal (by simp))
      have K4 := Lib.hid (K3.out.trans hal)
      have HBW := Lib.hid (show A + 1 ≤ (w3.alloc (.cells #[.string (bs x.txt)] 9)).heap.size by have := K4.out.size; have := HS1.out; omega)
      clear hk3 hal e0 e1 e2 e3 e4 e5 e6
      have O5 : (w3.alloc (.cells #[.string (bs x.txt)] 9)).ownsRow (A + 1) 9 1 (.slice sa i sc) i (strsC ((c.inner.take i).map Con.txt)) := by have := O4.out; unfold SOwn at this; rw [HLL.out] at this; exact this
      have O6 := Lib.hid O5
      clear O5
      go_wp2_with (at_builtin; refine wpList_append_own _ rfl _ _ 42 rfl (A + 1) 9 i0 _ 1 16 Tryd.underlying42 hi0 hz0 hz1 hz2 rfl (by decide) _ _ _ rfl O6.out ⟨w3.heap.size, 0, none⟩ 1 1 [.string (bs x.txt)] rfl rfl (cell_one _ _ _) (by simp [Value.oneCell']) (by unfold maxLen; omega) (by omega) HBW.out ?_; intro v8 w8 hown8 hgrow8 _; have O8 := Lib.hid hown8; have G8 := Lib.hid hgrow8; clear hown8 hgrow8)
      refine ⟨⟨i + 1, by omega, rfl, ?_, grown_kp (B := A + 1) G8.out (fun k e => (O6.out.lt k e).1) K4.out (by rw [HS1.out]; exact Nat.le_refl _)⟩, by simp [intOf]; omega⟩
      unfold SOwn
      rw [List.take_add_one, HX.out]
      have := O8.out
      simp only [Option.toList_some, List.map_append, List.map_cons, List.map_nil, List.length_append, List.length_cons, List.length_nil, HLL.out, strsC] at this ⊢
      exact this
    · have hie : i = c.inner.length := by omega
      subst hie
      have hiz : ¬ ((c.inner.length : Int) < (c.inner.length : Int)) := by omega
      have hown := HO.out
      rw [List.take_length] at hown
      have hlen : (c.inner.map Con.txt).length = c.inner.length := List.length_map _
      have hpos : 0 < c.inner.length := List.length_pos_iff.2 HNE.out
      have hcells := fun g (hg : (Value.slice sa c.inner.length sc).ownBlock = some g) => World.ownsRow.cells hown hg
      rcases hown.2 with ⟨h0, _⟩ | ⟨g, cap, cur, hv, hB, hh, hc, -, -, -⟩
      · injection h0 with _ h0 _
        omega
      · injection hv with hv1 hv2 hv3
        subst hv1; subst hv3
        rw [hlen] at hc
        have hcl : ∀ (j : Nat) x, ((c.inner.map Con.txt).map bs)[j]? = some x → wr.cell? ⟨g, 0 + j, none⟩ = some (.string x) := fun j x hx => by
          rw [List.getElem?_map] at hx
          obtain ⟨s, hs, rfl⟩ := Option.map_eq_some_iff.1 hx
          have := hcells g rfl j (.string (bs s)) (by unfold strsC; rw [List.getElem?_map, hs]; rfl)
          rwa [add00] at this
        have hmm : ((c.inner.map Con.txt).map bs).map (·.data.toList) = c.inner.map Con.txt := by
          rw [List.map_map]
          exact List.map_id'' (fun _ => rfl) _
        have hsep : (⟨#[44]⟩ : ByteArray).data.toList = [44] := rfl
        have hJ := Tryd.strings_Join g 0 sc ((c.inner.map Con.txt).map bs) ⟨#[44]⟩ wr hcl (block_lt hh) (by rw [List.length_map, hlen]; omega) (by rw [List.length_map, hlen]; exact hc) (by rw [hmm, hsep, join_joinC]; rw [bs_size] at hjl; omega)
        rw [hmm, hsep, join_joinC, List.length_map, hlen] at hJ
        have HJ := Lib.hid (show Calls Tryd.prog 38 #[.slice (some ⟨g, 0, none⟩) c.inner.length sc, .string ⟨#[44]⟩] wr fun e w' => e = .returned (.string (bs (joinC (c.inner.map Con.txt)))) ∧ Below wr.heap.size wr w' from hJ)
        obtain ⟨J, hJe⟩ : ∃ J, bs (joinC (c.inner.map Con.txt)) = J := ⟨_, rfl⟩
        rw [hJe] at HFIN HJ hjl
        have HHF := Lib.hid HFIN.out
        clear hJe
        clear hcl hJ hh hcells hown hmm hll hlen hv2
        go_wp2_with fail
        refine HJ.out.mono ?_
        rintro r w2 ⟨rfl, hb2⟩
        have K2 := Lib.hid ((K1.out.trans KP.out).trans (Kp.of_below hb2))
        clear hb2
        go_wp2
        go_ret
        rw [HFIN.out]
        exact ⟨rfl, K2.out⟩

set_option maxHeartbeats 4000000 in
set_option maxRecDepth 100000 in
theorem rtext5 {d : Nat} (hd : d ≤ 5) (ht : RTextOK d) {Q : Nat → Prop} (c : Con) (a : Option Addr) (n : Nat) (w : World) (hk : c.kind = 5) (hv : valN (d + 1) c = true) (hh : CHas Q w (.slice a c.inner.length n) c.inner) :
    Calls Tryd.prog 27 #[.agg #[.int .i64 c.kind, .string (bs c.id), .string (bs c.lab), .int .i64 c.slot, .int .i64 c.tot, .int .i64 c.lst, .slice a c.inner.length n]] w fun r w' => r = .returned (.string (bs c.txt)) ∧ Kp [] w w' := by
  have hv1 := hv
  unfold valN at hv1
  rw [if_neg (by rw [hk]; decide)] at hv1
  simp only [Bool.and_eq_true] at hv1
  obtain ⟨⟨hi, hho⟩, ha⟩ := hv1
  have h16 := inner_len hho
  have hil : (bs c.id).size ≤ 16 := isID_len hi
  have hll : (bs c.lab).size ≤ 16 := lab_len hho
  have htl := Nat.le_trans (txt_len (d + 1) c hv) (tlen6 (d + 1) (by omega))

  obtain ⟨i0, hi0, hz0, hz1, hz2⟩ := info_parts info9
  obtain ⟨w1, hw1⟩ : ∃ w1, w.alloc (.cells #[.int .i64 c.kind, .string (bs c.id), .string (bs c.lab), .int .i64 c.slot, .int .i64 c.tot, .int .i64 c.lst, .slice a c.inner.length n] 24) = w1 := ⟨_, rfl⟩
  have hk1 : Kp [] w w1 := by rw [← hw1]; exact (Kp.refl [] w).alloc _
  have hb1 : BoxV w.heap.size (.int .i64 c.kind) (.string (bs c.id)) (.string (bs c.lab)) (.int .i64 c.slot) (.int .i64 c.tot) (.int .i64 c.lst) (.slice a c.inner.length n) w1 := by rw [← hw1]; exact al_new _ _
  have hs1 : w1.heap.size = w.heap.size + 1 := by rw [← hw1]; exact al_size _ _
  obtain ⟨A, hA⟩ : ∃ A, w.heap.size = A := ⟨_, rfl⟩
  rw [hA] at hb1 hs1
  have hne : c.inner ≠ [] := by
    intro e
    unfold headOK at hho
    simp [hk, e] at hho
  have htx : c.txt = headT c ++ 40 :: (joinC (c.inner.map Con.txt) ++ [41]) := by rw [txt_eq, if_neg (by rw [hk]; decide), if_neg (by rw [hk]; decide)]
  have HFIN := Lib.hid (show bs (headT c) ++ (⟨#[40]⟩ : ByteArray) ++ bs (joinC (c.inner.map Con.txt)) ++ (⟨#[41]⟩ : ByteArray) = bs c.txt by
    rw [show (⟨#[40]⟩ : ByteArray) = bs [40] from rfl, show (⟨#[41]⟩ : ByteArray) = bs [41] from rfl, bs_app, bs_app, bs_app, htx]; simp)
  have hhl : (bs (headT c)).size ≤ 60 := head_len hi hho
  have hjl : (bs (joinC (c.inner.map Con.txt))).size ≤ 4000000000 := by
    rw [bs_size]
    have := htl
    rw [htx, List.length_append, List.length_cons, List.length_append] at this
    omega
  have HF := Lib.hid (show (⟨#[116, 97, 98, 108, 101, 58]⟩ : ByteArray) ++ bs c.id = bs (headT c) by
    rw [show (⟨#[116, 97, 98, 108, 101, 58]⟩ : ByteArray) = bs [116, 97, 98, 108, 101, 58] from rfl, bs_app]
    unfold headT
    rw [if_neg (by rw [hk]; decide), if_neg (by rw [hk]; decide), if_neg (by rw [hk]; decide), if_neg (by rw [hk]; decide)]
    simp [wTable])
  obtain ⟨a', n', he, hrow⟩ := hh.form
  cases he
  obtain ⟨b, o, rfl, h1, h2, hq, hb, hr⟩ := hrow hne
  have HR := Lib.hid hr
  have HQ := Lib.hid hq
  have HT := Lib.hid ht
  have HV := Lib.hid ha
  have K1 := Lib.hid hk1
  have B1 := Lib.hid hb1
  have HS1 := Lib.hid hs1
  have HA := Lib.hid hA
  have HNE := Lib.hid hne
  obtain ⟨c0, c1, c2, c3, c4, c5, c6⟩ := hb1.cells
  generalize bs c.txt = R at *
  obtain ⟨H, hHe⟩ : ∃ H, bs (headT c) = H := ⟨_, rfl⟩
  rw [hHe] at HFIN HF hhl
  clear hHe

  generalize bs c.id = I at *
  generalize bs c.lab = L at *
  rw [hk] at *
  have q0 : (⟨#[116, 97, 98, 108, 101, 58]⟩ : ByteArray).size = 6 := rfl
  have r1 := fun W : World => @run_add_str Tryd.prog W (⟨#[116, 97, 98, 108, 101, 58]⟩ : ByteArray) I (by show _ + _ ≤ _; omega)
  obtain ⟨X1, x1⟩ : ∃ X, (⟨#[116, 97, 98, 108, 101, 58]⟩ : ByteArray) ++ I = X := ⟨_, rfl⟩
  have z1 : X1.size ≤ 22 := by rw [← x1, ByteArray.size_append]; show _ + _ ≤ _; omega
  rw [x1] at r1 HF
  clear x1
  clear q0
  clear hr hrow h2 hq ht hv hk1 hh hne h1 hb1 hs1 ha hho hi htl htx hk
  go_enter Tryd.func27, Tryd.ntmps27
  go_wp2
  rw [HF.out]
  clear c0 c1 c2 c3 c4 c5 c6 hw1 
  go_loopw [4, 5] (fun s4 s5 wx => ∃ i : Nat, i ≤ c.inner.length ∧ s5 = .int .i64 (i : Int) ∧ SOwn wx (A + 1) s4 ((c.inner.take i).map Con.txt) ∧ Kp [] w1 wx) (fun _ s5 _ => c.inner.length - (intOf s5).toNat)
  case atStart => exact ⟨0, Nat.zero_le _, rfl, World.ownsRow_nil _ _ _ _, Kp.refl [] w1⟩
  case round =>
    rename_i wr
    obtain ⟨i, hi, rfl, hown, hkp⟩ := hrel
    obtain ⟨sa, sc, rfl⟩ := hown.form
    obtain ⟨c0, c1, c2, c3, c4, c5, c6⟩ := (B1.out.kp hkp (by simp)).cells
    have KP := Lib.hid hkp
    have HO := Lib.hid hown
    have hll : ((c.inner.take i).map Con.txt).length = i := by rw [List.length_map, List.length_take]; omega
    clear hkp hown
    rw [hll] at HO
    by_cases hlt : i < c.inner.length
    · have hiz : (i : Int) < (c.inner.length : Int) := by omega
      obtain ⟨x, hx⟩ : ∃ x, c.inner[i]? = some x := ⟨_, List.getElem?_eq_getElem hlt⟩
      have hroww := CRow.keep (K1.out.trans KP.out).size (fun k hk (hq : Q k) => ⟨hq, (K1.out.trans KP.out).block k hk (by simp)⟩) _ b o HQ.out hb HR.out
      obtain ⟨v, hvx, htx, e0, e1, e2, e3, e4, e5, e6⟩ := hroww.cells hx
      obtain ⟨a2, n2, rfl, _⟩ := hvx.form
      have hvalx : valN d x = true := List.all_eq_true.1 HV.out x (List.mem_of_getElem? hx)
      have HC := Lib.hid (HT.out Q x a2 n2 wr hvalx hvx)
      have HX := Lib.hid hx
      have hwi : IntKind.i64.wrap ((i : Int) + 1) = ((i + 1 : Nat) : Int) := by rw [IntKind.wrap_i64]; omega
      have HLL := Lib.hid hll
      clear hx hroww hvx htx hvalx hll
      go_wp2_with fail
      refine HC.out.mono ?_
      rintro r w3 ⟨rfl, hk3⟩
      have K3 := Lib.hid (KP.out.trans hk3)
      have O3 := Lib.hid (HO.out.kp hk3 (by simp))
      have hal : Kp [] w3 (w3.alloc (.cells #[.string (bs x.txt)] 9)) := (Kp.refl [] w3).alloc _
      have O4 := Lib.hid (O3.out.kp hal (by simp))
      have K4 := Lib.hid (K3.out.trans hal)
      have HBW := Lib.hid (show A + 1 ≤ (w3.alloc (.cells #[.string (bs x.txt)] 9)).heap.size by have := K4.out.size; have := HS1.out; omega)
      clear hk3 hal e0 e1 e2 e3 e4 e5 e6
      have O5 : (w3.alloc (.cells #[.string (bs x.txt)] 9)).ownsRow (A + 1) 9 1 (.slice sa i sc) i (strsC ((c.inner.take i).map Con.txt)) := by have := O4.out; unfold SOwn at this; rw [HLL.out] at this; exact this
      have O6 := Lib.hid O5
      clear O5
      go_wp2_with (at_builtin; refine wpList_append_own _ rfl _ _ 42 rfl (A + 1) 9 i0 _ 1 16 Tryd.underlying42 hi0 hz0 hz1 hz2 rfl (by decide) _ _ _ rfl O6.out ⟨w3.heap.size, 0, none⟩ 1 1 [.string (bs x.txt)] rfl rfl (cell_one _ _ _) (by simp [Value.oneCell']) (by unfold maxLen; omega) (by omega) HBW.out ?_; intro v8 w8 hown8 hgrow8 _; have O8 := Lib.hid hown8; have G8 := Lib.hid hgrow8; clear hown8 hgrow8)
      refine ⟨⟨i + 1, by omega, rfl, ?_, grown_kp (B := A + 1) G8.out (fun k e => (O6.out.lt k e).1) K4.out (by rw [HS1.out]; exact Nat.le_refl _)⟩, by simp [intOf]; omega⟩
      unfold SOwn
      rw [List.take_add_one, HX.out]
      have := O8.out
      simp only [Option.toList_some, List.map_append, List.map_cons, List.map_nil, List.length_append, List.length_cons, List.length_nil, HLL.out, strsC] at this ⊢
      exact this
    · have hie : i = c.inner.length := by omega
      subst hie
      have hiz : ¬ ((c.inner.length : Int) < (c.inner.length : Int)) := by omega
      have hown := HO.out
      rw [List.take_length] at hown
      have hlen : (c.inner.map Con.txt).length = c.inner.length := List.length_map _
      have hpos : 0 < c.inner.length := List.length_pos_iff.2 HNE.out
      have hcells := fun g (hg : (Value.slice sa c.inner.length sc).ownBlock = some g) => World.ownsRow.cells hown hg
      rcases hown.2 with ⟨h0, _⟩ | ⟨g, cap, cur, hv, hB, hh, hc, -, -, -⟩
      · injection h0 with _ h0 _
        omega
      · injection hv with hv1 hv2 hv3
        subst hv1; subst hv3
        rw [hlen] at hc
        have hcl : ∀ (j : Nat) x, ((c.inner.map Con.txt).map bs)[j]? = some x → wr.cell? ⟨g, 0 + j, none⟩ = some (.string x) := fun j x hx => by
          rw [List.getElem?_map] at hx
          obtain ⟨s, hs, rfl⟩ := Option.map_eq_some_iff.1 hx
          have := hcells g rfl j (.string (bs s)) (by unfold strsC; rw [List.getElem?_map, hs]; rfl)
          rwa [add00] at this
        have hmm : ((c.inner.map Con.txt).map bs).map (·.data.toList) = c.inner.map Con.txt := by
          rw [List.map_map]
          exact List.map_id'' (fun _ => rfl) _
        have hsep : (⟨#[44]⟩ : ByteArray).data.toList = [44] := rfl
        have hJ := Tryd.strings_Join g 0 sc ((c.inner.map Con.txt).map bs) ⟨#[44]⟩ wr hcl (block_lt hh) (by rw [List.length_map, hlen]; omega) (by rw [List.length_map, hlen]; exact hc) (by rw [hmm, hsep, join_joinC]; rw [bs_size] at hjl; omega)
        rw [hmm, hsep, join_joinC, List.length_map, hlen] at hJ
        have HJ := Lib.hid (show Calls Tryd.prog 38 #[.slice (some ⟨g, 0, none⟩) c.inner.length sc, .string ⟨#[44]⟩] wr fun e w' => e = .returned (.string (bs (joinC (c.inner.map Con.txt)))) ∧ Below wr.heap.size wr w' from hJ)
        obtain ⟨J, hJe⟩ : ∃ J, bs (joinC (c.inner.map Con.txt)) = J := ⟨_, rfl⟩
        rw [hJe] at HFIN HJ hjl
        have HHF := Lib.hid HFIN.out
        clear hJe
        clear hcl hJ hh hcells hown hmm hll hlen hv2
        go_wp2_with fail
        refine HJ.out.mono ?_
        rintro r w2 ⟨rfl, hb2⟩
        have K2 := Lib.hid ((K1.out.trans KP.out).trans (Kp.of_below hb2))
        clear hb2
        go_wp2
        go_ret
        rw [HFIN.out]
        exact ⟨rfl, K2.out⟩

set_option maxHeartbeats 1000000 in
set_option maxRecDepth 100000 in
theorem rtext0 (c : Con) (a : Option Addr) (n : Nat) (w : World) (hk : c.kind = 0) :
    Calls Tryd.prog 27 #[.agg #[.int .i64 c.kind, .string (bs c.id), .string (bs c.lab), .int .i64 c.slot, .int .i64 c.tot, .int .i64 c.lst, .slice a c.inner.length n]] w fun r w' => r = .returned (.string (bs c.txt)) ∧ Kp [] w w' := by
  have HT := Lib.hid (show c.txt = [] by rw [txt_eq, if_pos hk])
  rw [hk]
  clear hk
  go_enter Tryd.func27, Tryd.ntmps27
  go_wp2
  go_ret
  rw [HT.out]
  exact ⟨rfl, (Kp.refl [] w).alloc _⟩
/-- THE REFERENCE'S TEXT OF A VALID CONTENT. -/
theorem refText_any : ∀ d, d ≤ 6 → RTextOK d
  | 0, _ => fun Q c a n W hv _ => by
    refine rtext0 c a n W ?_
    unfold valN at hv
    split at hv
    · assumption
    · cases hv
  | d + 1, hd => fun Q c a n W hv hh => by
    have ih := refText_any d (by omega)
    by_cases h0 : c.kind = 0
    · exact rtext0 c a n W h0
    by_cases h1 : c.kind = 1
    · exact rtext1 (by omega) ih c a n W h1 hv hh
    by_cases h2 : c.kind = 2
    · exact rtext2 (by omega) ih c a n W h2 hv hh
    by_cases h3 : c.kind = 3
    · exact rtext3 (by omega) ih c a n W h3 hv hh
    by_cases h4 : c.kind = 4
    · exact rtext4 (by omega) ih c a n W h4 hv hh
    by_cases h5 : c.kind = 5
    · exact rtext5 (by omega) ih c a n W h5 hv hh
    · unfold valN at hv
      rw [if_neg h0] at hv
      unfold headOK at hv
      simp [h1, h2, h3, h4, h5] at hv
end Go.Proofs.YtoohnjlghjapnaaDoor
