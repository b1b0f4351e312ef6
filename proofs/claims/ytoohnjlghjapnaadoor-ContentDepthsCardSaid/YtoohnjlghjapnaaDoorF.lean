/- The parser's steps: taking a byte, a word, a number. -/
import Derived.Test.YtoohnjlghjapnaaDoorD
import Derived.Test.YtoohnjlghjapnaaDoorShelf
import Derived.Lib.LaidTab
import Derived.Lib.AppendIntMem
import Derived.Lib.ConvBytes
namespace Go.Proofs.YtoohnjlghjapnaaDoor
open Go.RowKit

/-- The parser at block pb: what is left, and whether there was a fault. -/
def Par (pb : Nat) (x : St) (w : World) : Prop := w.heap[pb]? = some (.cells #[.string (bs x.1), .bool x.2] 57 (0, 0))
theorem Par.cells {pb : Nat} {x : St} {w : World} (h : Par pb x w) : w.cell? ⟨pb, 0, none⟩ = some (.string (bs x.1)) ∧ w.cell? ⟨pb, 1, none⟩ = some (.bool x.2) ∧ w.frozen? ⟨pb, 0, none⟩ = false ∧ w.frozen? ⟨pb, 1, none⟩ = false := by
  refine ⟨?_, ?_, ?_, ?_⟩
  · rw [cell_of_row _ _ _ _ _ _ h]; rfl
  · rw [cell_of_row _ _ _ _ _ _ h]; rfl
  · simp [World.frozen?, show w.heap[pb]? = _ from h]
  · simp [World.frozen?, show w.heap[pb]? = _ from h]
theorem Par.put0 {pb : Nat} {x : St} {w : World} (h : Par pb x w) (r : List UInt8) : Par pb (r, x.2) (w.setCell ⟨pb, 0, none⟩ (.string (bs r))) := by
  unfold Par at h ⊢
  simp [World.setCell, Array.getElem?_modify, h]
theorem Par.put1 {pb : Nat} {x : St} {w : World} (h : Par pb x w) (b : Bool) : Par pb (x.1, b) (w.setCell ⟨pb, 1, none⟩ (.bool b)) := by
  unfold Par at h ⊢
  simp [World.setCell, Array.getElem?_modify, h]
theorem bs_isEmpty (r : List UInt8) : (bs r).toList.isEmpty = r.isEmpty := by rw [Lib.toList_data, bs_data]
theorem bs_drop (l : List UInt8) (k : Nat) : (bs l).extract k (bs l).size = bs (l.drop k) := by
  apply ByteArray.ext
  rw [ByteArray.data_extract, bs_size]
  apply Array.ext'
  simp [bs]
  rw [List.take_of_length_le (by simp)]
theorem bs_take (l : List UInt8) (k : Nat) : (bs l).extract 0 k = bs (l.take k) := by
  apply ByteArray.ext
  rw [ByteArray.data_extract]
  apply Array.ext'
  simp [bs]
def hasB (x : St) (b : UInt8) : Bool := match x.1 with | [] => false | a :: _ => a == b

set_option maxHeartbeats 1000000 in
set_option maxRecDepth 100000 in
theorem has_any {pb : Nat} {x : St} {w : World} (b : UInt8) (h : Par pb x w) : Calls Tryd.prog 63 #[.pointer (some ⟨pb, 0, none⟩), .int .u8 (b.toNat : Int)] w fun r w' => r = .returned (.bool (hasB x b)) ∧ w = w' := by
  obtain ⟨c0, c1, f0, f1⟩ := h.cells
  obtain ⟨r, wr⟩ := x
  cases r with
  | nil =>
    have he : (bs []).toList.isEmpty = true := by rw [bs_isEmpty]; rfl
    clear h
    go_enter Tryd.func63, Tryd.ntmps63
    go_wp2
    go_ret
    exact ⟨rfl, rfl⟩
  | cons a r =>
    have he : (bs (a :: r)).toList.isEmpty = false := by rw [bs_isEmpty]; rfl
    have hz : (0 : Int) < ((bs (a :: r)).size : Int) := by rw [bs_size]; simp
    clear h
    go_enter Tryd.func63, Tryd.ntmps63
    go_wp2
    go_ret
    refine ⟨ret_b ?_, rfl⟩
    exact u8_eq a b

theorem hasB_cons {x : St} {b : UInt8} (h : hasB x b = true) : ∃ r, x.1 = b :: r := by
  obtain ⟨r, wr⟩ := x
  cases r with
  | nil => cases h
  | cons a r => simp only [hasB, beq_iff_eq] at h; subst h; exact ⟨r, rfl⟩
theorem take_has {x : St} {b : UInt8} {r : List UInt8} (h : x.1 = b :: r) : takeP b x = (r, x.2) := by simp [takeP, h]
theorem take_not {x : St} {b : UInt8} (h : hasB x b = false) : takeP b x = (x.1, true) := by
  obtain ⟨r, wr⟩ := x
  cases r with
  | nil => rfl
  | cons a r => simp only [hasB, beq_eq_false_iff_ne] at h; simp [takeP, h]

set_option maxHeartbeats 1000000 in
set_option maxRecDepth 100000 in
theorem take_any {pb : Nat} {x : St} {w : World} (b : UInt8) (h : Par pb x w) : Calls Tryd.prog 60 #[.pointer (some ⟨pb, 0, none⟩), .int .u8 (b.toNat : Int)] w fun r w' => r = .returned (.tuple #[]) ∧ Par pb (takeP b x) w' ∧ Kp [pb] w w' ∧ w'.heap.size = w.heap.size := by
  obtain ⟨c0, c1, f0, f1⟩ := h.cells
  have HC := Lib.hid (has_any b h)
  have HP := Lib.hid h
  cases hb : hasB x b with
  | false =>
    rw [hb] at HC
    have HT := Lib.hid (take_not hb)
    clear hb h
    go_enter Tryd.func60, Tryd.ntmps60
    go_wp2_with (go_at_call 63; refine HC.out.mono ?_; rintro r w' ⟨rfl, rfl⟩)
    refine bodyPost_ret (v := .tuple #[]) (by simp [results, Tryd.results60, go_sem]) rfl ⟨rfl, ?_, (Kp.refl [pb] w).setCell (.inl (by simp)) _, by simp [World.setCell]⟩
    rw [HT.out]
    exact HP.out.put1 true
  | true =>
    rw [hb] at HC
    obtain ⟨r, hr⟩ := hasB_cons hb
    have HT := Lib.hid (take_has hr)
    have HR := Lib.hid hr
    clear hb h hr
    have hz : (1 : Int) ≤ ((bs x.1).size : Int) := by rw [bs_size, HR.out]; simp; omega
    go_enter Tryd.func60, Tryd.ntmps60
    go_wp2_with (go_at_call 63; refine HC.out.mono ?_; rintro r w' ⟨rfl, rfl⟩)
    go_end0
    refine ⟨rfl, ?_, (Kp.refl [pb] w).setCell (.inl (by simp)) _, by simp [World.setCell]⟩
    rw [HT.out]
    have e : (bs x.1).extract 1 (bs x.1).size = bs r := by rw [bs_drop, HR.out]; rfl
    rw [e]
    exact HP.out.put0 r

theorem wrd_take (l : List UInt8) : l.take (wrd l).length = wrd l ∧ l.drop (wrd l).length = rst l := by
  have e := wrd_rst l
  have h1 : (wrd l ++ rst l).take (wrd l).length = wrd l := List.take_left' rfl
  have h2 : (wrd l ++ rst l).drop (wrd l).length = rst l := List.drop_left' rfl
  rw [e] at h1 h2
  exact ⟨h1, h2⟩
theorem wrd_le (l : List UInt8) : (wrd l).length ≤ l.length := by
  have := congrArg List.length (wrd_rst l)
  rw [List.length_append] at this
  omega

set_option maxHeartbeats 1000000 in
set_option maxRecDepth 100000 in
theorem word_any {pb : Nat} {x : St} {w : World} (h : Par pb x w) (hx : x.1.length ≤ 1000000) : Calls Tryd.prog 41 #[.pointer (some ⟨pb, 0, none⟩)] w fun r w' => r = .returned (.string (bs (wrd x.1))) ∧ Par pb (rst x.1, x.2) w' ∧ Kp [pb] w w' ∧ w'.heap.size = w.heap.size := by
  obtain ⟨c0, c1, f0, f1⟩ := h.cells
  have hl := wrd_le x.1
  have hL := idLength_any (bs x.1) w (by rw [bs_size]; omega)
  rw [bs_data] at hL
  have hc : ((wrd x.1).length : Int) ≤ ((bs x.1).size : Int) := by rw [bs_size]; omega
  have hc2 : (wrd x.1).length ≤ (bs x.1).size := by rw [bs_size]; omega
  have HL := Lib.hid hL
  have HP := Lib.hid h
  have e1 : (bs x.1).extract 0 (wrd x.1).length = bs (wrd x.1) := by rw [bs_take, (wrd_take x.1).1]
  have e2 : (bs x.1).extract (wrd x.1).length (bs x.1).size = bs (rst x.1) := by rw [bs_drop, (wrd_take x.1).2]
  have E1 := Lib.hid e1
  have E2 := Lib.hid e2
  generalize (wrd x.1).length = n at *
  clear e1 e2 h hL hx
  go_enter Tryd.func41, Tryd.ntmps41
  go_wp2_with (go_at_call 59; refine HL.out.mono ?_; rintro r w' ⟨rfl, rfl⟩)
  go_ret
  rw [E1.out, E2.out]
  exact ⟨rfl, HP.out.put0 _, (Kp.refl [pb] w).setCell (.inl (by simp)) _, by simp [World.setCell]⟩

/-- What the walks need of the package-level variables: the table of powers, the two errors. -/
structure Env (w : World) : Prop where
  tab : Lib.TabIs Tryd.prog w "internal/strconv.uint64pow10" .u64 Lib.pow10Tab
  e2 : ∃ te pe, w.cell? ⟨2, 0, none⟩ = some (.iface te pe)
  e3 : ∃ te pe, w.cell? ⟨3, 0, none⟩ = some (.iface te pe)
  size : 6 ≤ w.heap.size
theorem Env.keep {w w' : World} (h : Env w) (h0 : w'.heap[0]? = w.heap[0]?) (h2 : w'.heap[2]? = w.heap[2]?) (h3 : w'.heap[3]? = w.heap[3]?) (hs : w.heap.size ≤ w'.heap.size) : Env w' := by
  have hg : Tryd.prog.globalNamed "internal/strconv.uint64pow10" = some 0 := by kernel_rfl
  obtain ⟨ht, ⟨a, b, ha⟩, ⟨c, d, hc⟩, hz⟩ := h
  refine ⟨?_, ⟨a, b, ?_⟩, ⟨c, d, ?_⟩, by omega⟩
  · unfold Lib.TabIs World.var? at ht ⊢
    rw [hg] at ht ⊢
    simp only [Option.bind_some, h0] at ht ⊢
    exact ht
  · simp only [World.cell?, h2] at ha ⊢
    exact ha
  · simp only [World.cell?, h3] at hc ⊢
    exact hc
theorem Env.kp {w w' : World} {S : List Nat} (h : Env w) (hk : Kp S w w') (hS : ∀ x ∈ S, 6 ≤ x) : Env w' := by
  have hz := h.size
  have : ∀ b, b < 6 → w'.heap[b]? = w.heap[b]? := fun b hb => hk.block b (by omega) fun hm => by have := hS b hm; omega
  exact h.keep (this 0 (by omega)) (this 2 (by omega)) (this 3 (by omega)) hk.size
theorem Par.kp {pb : Nat} {x : St} {w w' : World} {S : List Nat} (h : Par pb x w) (hk : Kp S w w') (hS : pb ∉ S) : Par pb x w' := (hk.block pb (block_lt h) hS).trans h

set_option maxHeartbeats 1000000 in
set_option maxRecDepth 100000 in
theorem itoa_any {w : World} (h : Env w) (n : Int) (h0 : -9223372036854775808 ≤ n) (h1 : n ≤ 9223372036854775807) : Calls Tryd.prog 36 #[.int .i64 n] w fun e w' => e = .returned (.string (bs (Lib.itoa n))) ∧ Kp [] w w' :=
  (Tryd.strconv_Itoa n h0 h1 w h.tab).mono fun _ _ ⟨he, k, os, hw⟩ => ⟨he, hw ▸ Kp.of_below (Lib.below_grow _ w (Nat.le_refl _) k os)⟩
/-- Atoi: the value; nil exactly if the text spells an int. -/
theorem atoi_ok {w : World} (s : List UInt8) (hs : s.length ≤ 1000000) (v : Int) (h : Lib.atoiAll s = .ok v) : Calls Tryd.prog 72 #[.string (bs s)] w fun e w' => e = .returned (.tuple #[.int .i64 v, .nilIface]) ∧ Kp [] w w' :=
  (Tryd.strconv_Atoi_ok (bs s) (by rw [bs_size]; omega) v h w).mono fun e w' ⟨he, hw⟩ => ⟨he, by
    rcases hw with rfl | ⟨t, rfl⟩
    · exact Kp.refl _ _
    · exact Kp.of_below (Lib.bytesWorld_below _ _ _)⟩
theorem atoi_bad {w : World} (hE : Env w) (s : List UInt8) (hs : s.length ≤ 1000000) (h : ∀ v, Lib.atoiAll s ≠ .ok v) : Calls Tryd.prog 72 #[.string (bs s)] w fun e w' => ∃ N, e = .returned (.tuple #[.int .i64 (atoiV s), .iface 116 (.pointer (some ⟨N, 0, none⟩))]) ∧ Kp [] w w' := by
  have hl : (bs s).size ≤ 281474976710656 := by rw [bs_size]; omega
  cases hv : Lib.atoiAll s with
  | ok v => exact absurd hv (h v)
  | «syntax» =>
    obtain ⟨te, pe, he⟩ := hE.e2
    have e : atoiV s = 0 := by unfold atoiV; rw [hv]
    rw [e]
    exact (Tryd.strconv_Atoi_syntax (bs s) hl hv _ w he (.inr ⟨te, pe, rfl⟩)).mono fun _ _ ⟨N, h1, _, _, h2⟩ => ⟨N, h1, Kp.of_below h2⟩
  | range =>
    obtain ⟨te, pe, he⟩ := hE.e3
    have e : atoiV s = Lib.atoiSat s := by unfold atoiV; rw [hv]
    rw [e]
    exact (Tryd.strconv_Atoi_range (bs s) hl hv _ w he (.inr ⟨te, pe, rfl⟩)).mono fun _ _ ⟨N, h1, _, _, h2⟩ => ⟨N, h1, Kp.of_below h2⟩

set_option maxHeartbeats 2000000 in
set_option maxRecDepth 100000 in
theorem number_any {pb : Nat} {x : St} {w : World} (h : Par pb x w) (hE : Env w) (hpb : 6 ≤ pb) (hx : x.1.length ≤ 1000000) : Calls Tryd.prog 62 #[.pointer (some ⟨pb, 0, none⟩)] w fun r w' => r = .returned (.int .i64 (numP x).1) ∧ Par pb (numP x).2 w' ∧ Kp [pb] w w' := by
  have HW := Lib.hid (word_any h hx)
  have HE := Lib.hid hE
  have HL := Lib.hid (Nat.le_trans (wrd_le x.1) hx)
  have HP0 := Lib.hid (block_lt h)
  by_cases hv : ∃ v, Lib.atoiAll (wrd x.1) = .ok v
  · obtain ⟨v, hv⟩ := hv
    have e1 : atoiV (wrd x.1) = v := by unfold atoiV; rw [hv]
    have e2 : atoiOK (wrd x.1) = (Lib.itoa v == wrd x.1) := by unfold atoiOK; rw [hv]
    have hn : numP x = (v, rst x.1, x.2 || !(Lib.itoa v == wrd x.1)) := by unfold numP; rw [e1, e2]
    rw [hn]
    have HV := Lib.hid hv
    have HB := Lib.hid (Lib.atoiAll_bounds hv)
    clear e1 e2 h hE hx hv hn
    generalize rst x.1 = st at *
    generalize wrd x.1 = wd at *
    generalize hwr : Lib.itoa v = wr at *
    have HWR := Lib.hid hwr
    clear hwr
    cases hq : wr == wd with
    | true =>
      have hq' : ((bs wr).toList == (bs wd).toList) = true := by rw [Lib.toList_data, Lib.toList_data, bs_data, bs_data]; exact hq
      have hq2 : wr = wd := by simpa using hq
      subst hq2
      clear hq hq'
      go_enter Tryd.func62, Tryd.ntmps62
      go_wp2_with fail
      refine HW.out.mono ?_
      rintro r w1 ⟨rfl, hp1, hk1, hs1⟩
      have P1 := Lib.hid hp1
      have K1 := Lib.hid hk1
      have E1 := Lib.hid (HE.out.kp hk1 (by simp; exact hpb))
      clear hp1 hk1 hs1
      go_wp2_with fail
      refine (atoi_ok _ HL.out v HV.out).mono ?_
      rintro r w2 ⟨rfl, hk2⟩
      have P2 := Lib.hid (P1.out.kp hk2 (by simp))
      have K2 := Lib.hid (K1.out.trans (hk2.mono (by simp)))
      have E2 := Lib.hid (E1.out.kp hk2 (by simp))
      clear hk2
      go_wp2_with fail
      refine (itoa_any E2.out v HB.out.1 HB.out.2).mono ?_
      rw [HWR.out]
      rintro r w3 ⟨rfl, hk3⟩
      have P3 := Lib.hid (P2.out.kp hk3 (by simp))
      have K3 := Lib.hid (K2.out.trans (hk3.mono (by simp)))
      clear hk3
      go_wp2
      go_ret
      refine ⟨rfl, ?_, K3.out⟩
      simpa using P3.out
    | false =>
      have hq' : ((bs wr).toList == (bs wd).toList) = false := by rw [Lib.toList_data, Lib.toList_data, bs_data, bs_data]; exact hq
      have hq3 : ((bs wr).toList != (bs wd).toList) = true := by rw [bne, hq']; rfl
      have hq4 : ¬ ((bs wr).toList = (bs wd).toList) := by simpa using hq'
      have HQ := Lib.hid hq
      clear hq
      go_enter Tryd.func62, Tryd.ntmps62
      go_wp2_with fail
      refine HW.out.mono ?_
      rintro r w1 ⟨rfl, hp1, hk1, hs1⟩
      have P1 := Lib.hid hp1
      have K1 := Lib.hid hk1
      have E1 := Lib.hid (HE.out.kp hk1 (by simp; exact hpb))
      clear hp1 hk1 hs1
      go_wp2_with fail
      refine (atoi_ok _ HL.out v HV.out).mono ?_
      rintro r w2 ⟨rfl, hk2⟩
      have P2 := Lib.hid (P1.out.kp hk2 (by simp))
      have K2 := Lib.hid (K1.out.trans (hk2.mono (by simp)))
      have E2 := Lib.hid (E1.out.kp hk2 (by simp))
      clear hk2
      go_wp2_with fail
      refine (itoa_any E2.out v HB.out.1 HB.out.2).mono ?_
      rw [HWR.out]
      rintro r w3 ⟨rfl, hk3⟩
      have P3 := Lib.hid (P2.out.kp hk3 (by simp))
      have K3 := Lib.hid (K2.out.trans (hk3.mono (by simp)))
      obtain ⟨c0, c1, f0, f1⟩ := P3.out.cells
      clear hk3
      go_wp2
      go_ret
      refine ⟨rfl, ?_, K3.out.setCell (.inl (by simp)) _⟩
      have := P3.out.put1 true
      simpa using this
  · have hv' : ∀ v, Lib.atoiAll (wrd x.1) ≠ .ok v := fun v e => hv ⟨v, e⟩
    have e2 : atoiOK (wrd x.1) = false := by
      unfold atoiOK
      cases hq : Lib.atoiAll (wrd x.1) with
      | ok v => exact absurd hq (hv' v)
      | «syntax» => rfl
      | range => rfl
    have hn : numP x = (atoiV (wrd x.1), rst x.1, true) := by unfold numP; rw [e2]; simp
    rw [hn]
    have HV := Lib.hid hv'
    clear e2 h hE hx hv hn hv'
    generalize rst x.1 = st at *
    generalize wrd x.1 = wd at *
    go_enter Tryd.func62, Tryd.ntmps62
    go_wp2_with fail
    refine HW.out.mono ?_
    rintro r w1 ⟨rfl, hp1, hk1, hs1⟩
    have P1 := Lib.hid hp1
    have K1 := Lib.hid hk1
    have E1 := Lib.hid (HE.out.kp hk1 (by simp; exact hpb))
    clear hp1 hk1 hs1
    go_wp2_with fail
    refine (atoi_bad E1.out _ HL.out HV.out).mono ?_
    rintro r w2 ⟨N, rfl, hk2⟩
    have P2 := Lib.hid (P1.out.kp hk2 (by simp))
    have K2 := Lib.hid (K1.out.trans (hk2.mono (by simp)))
    obtain ⟨c0, c1, f0, f1⟩ := P2.out.cells
    clear hk2
    go_wp2
    go_ret
    exact ⟨rfl, P2.out.put1 true, K2.out.setCell (.inl (by simp)) _⟩
end Go.Proofs.YtoohnjlghjapnaaDoor
