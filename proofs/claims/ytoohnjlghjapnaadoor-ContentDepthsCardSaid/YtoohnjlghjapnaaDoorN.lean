/- The text of the contents inside a content. -/
import Derived.Test.YtoohnjlghjapnaaDoorM
namespace Go.Proofs.YtoohnjlghjapnaaDoor
open Go.RowKit

theorem info9 : (Tryd.prog.info? 9).map (fun i => (i.zero, i.size, i.bytes)) = some (some (.string ByteArray.empty), 1, 16) := by kernel_rfl
theorem add00 {g j : Nat} : (⟨g, 0, none⟩ : Addr).add j = ⟨g, 0 + j, none⟩ := by unfold Addr.add; split <;> simp_all
def strsC (l : List (List UInt8)) : List Value := l.map fun s => .string (bs s)
/-- A row of texts of a call's own. -/
def SOwn (w : World) (B : Nat) (v : Value) (l : List (List UInt8)) : Prop := w.ownsRow B 9 1 v l.length (strsC l)
theorem SOwn.kp {w w' : World} {B : Nat} {v : Value} {l : List (List UInt8)} {S : List Nat} (h : SOwn w B v l) (hk : Kp S w w') (hS : ∀ x ∈ S, x < B) : SOwn w' B v l := by
  refine ⟨h.1, ?_⟩
  rcases h.2 with hn | ⟨g, cap, cur, hv, hB, hh, rest⟩
  · exact .inl hn
  · exact .inr ⟨g, cap, cur, hv, hB, (hk.block g (block_lt hh) fun hm => by have := hS g hm; omega).trans hh, rest⟩
theorem SOwn.form {w : World} {B : Nat} {v : Value} {l : List (List UInt8)} (h : SOwn w B v l) : ∃ a c, v = .slice a l.length c := by
  rcases h.2 with ⟨hv, hn⟩ | ⟨g, cap, cur, hv, _⟩
  · exact ⟨none, 0, by rw [hv, hn]⟩
  · exact ⟨_, _, hv⟩
theorem cell_one (w : World) (u : Value) (t : TypeId) : ∀ j x, [u][j]? = some x → (w.alloc (.cells #[u] t)).cell? ((⟨w.heap.size, 0, none⟩ : Addr).add j) = some x := cells_new7 w [u] t
/-- What a call that gives a content's text leaves. -/
def TextOK (d : Nat) : Prop := ∀ (Q : Nat → Prop) (c : Con) (a : Option Addr) (n : Nat) (W : World), valN d c = true → CHas Q W (.slice a c.inner.length n) c.inner →
  Calls Tryd.prog 26 #[.agg #[.int .i64 c.kind, .string (bs c.id), .string (bs c.lab), .int .i64 c.slot, .int .i64 c.tot, .int .i64 c.lst, .slice a c.inner.length n]] W fun r w' => r = .returned (.string (bs c.txt)) ∧ Kp [] W w'

set_option maxHeartbeats 4000000 in
set_option maxRecDepth 100000 in
theorem innerText_any {d : Nat} (hd : d ≤ 6) (ht : TextOK d) {Q : Nat → Prop} (c : Con) (a : Option Addr) (n : Nat) (W : World) (hne : c.inner ≠ []) (h16 : c.inner.length ≤ 16) (hv : c.inner.all (valN d) = true) (hh : CHas Q W (.slice a c.inner.length n) c.inner) :
    Calls Tryd.prog 37 #[.agg #[.int .i64 c.kind, .string (bs c.id), .string (bs c.lab), .int .i64 c.slot, .int .i64 c.tot, .int .i64 c.lst, .slice a c.inner.length n]] W fun r w' => r = .returned (.string (bs (40 :: (joinC (c.inner.map Con.txt) ++ [41])))) ∧ Kp [] W w' := by
  obtain ⟨i0, hi0, hz0, hz1, hz2⟩ := info_parts info9
  obtain ⟨w1, hw1⟩ : ∃ w1, W.alloc (.cells #[.int .i64 c.kind, .string (bs c.id), .string (bs c.lab), .int .i64 c.slot, .int .i64 c.tot, .int .i64 c.lst, .slice a c.inner.length n] 24) = w1 := ⟨_, rfl⟩
  have hk1 : Kp [] W w1 := by rw [← hw1]; exact (Kp.refl [] W).alloc _
  obtain ⟨c0, c1, c2, c3, c4, c5, c6⟩ := (show Box c.kind (bs c.id) (bs c.lab) c.slot c.tot c.lst a c.inner.length n W.heap.size w1 by rw [← hw1]; exact al_new _ _).cells
  obtain ⟨A, hA⟩ : ∃ A, W.heap.size = A := ⟨_, rfl⟩
  rw [hA] at c0 c1 c2 c3 c4 c5 c6
  obtain ⟨a', n', he, hrow⟩ := hh.form
  cases he
  obtain ⟨b, o, rfl, h1, h2, hq, hb, hr⟩ := hrow hne
  have HR := Lib.hid hr
  have HQ := Lib.hid hq
  have HT := Lib.hid ht
  have HV := Lib.hid hv
  have K1 := Lib.hid hk1
  have HA := Lib.hid hA
  have HNE := Lib.hid hne
  have hmax := tlen6 d hd
  have HD := Lib.hid hd
  clear hr hrow h2 hq ht hv hk1 hh hne h1
  go_enter Tryd.func37, Tryd.ntmps37
  go_wp2
  clear c0 c1 c2 c3 c4 c5 c6 hw1
  go_loopw [3, 9] (fun s3 s9 wx => ∃ i : Nat, i ≤ c.inner.length ∧ s9 = .int .i64 (i : Int) ∧ SOwn wx A s3 ((c.inner.take i).map Con.txt) ∧ Kp [] W wx) (fun _ s9 _ => c.inner.length - (intOf s9).toNat)
  case atStart => exact ⟨0, Nat.zero_le _, rfl, World.ownsRow_nil _ _ _ _, K1.out⟩
  case round =>
    rename_i wr
    obtain ⟨i, hi, rfl, hown, hkp⟩ := hrel
    obtain ⟨sa, sc, rfl⟩ := hown.form
    have KP := Lib.hid hkp
    have HO := Lib.hid hown
    have hll : ((c.inner.take i).map Con.txt).length = i := by rw [List.length_map, List.length_take]; omega
    clear hkp hown
    rw [hll] at HO
    by_cases hlt : i < c.inner.length
    · have hiz : (i : Int) < (c.inner.length : Int) := by omega
      obtain ⟨x, hx⟩ : ∃ x, c.inner[i]? = some x := ⟨_, List.getElem?_eq_getElem hlt⟩
      have hroww := CRow.keep KP.out.size (fun k hk (hq : Q k) => ⟨hq, KP.out.block k hk (by simp)⟩) _ b o HQ.out hb HR.out
      obtain ⟨v, hvx, htx, e0, e1, e2, e3, e4, e5, e6⟩ := hroww.cells hx
      obtain ⟨a2, n2, rfl, _⟩ := hvx.form
      obtain ⟨wa, hwa⟩ : ∃ wa, wr.alloc (.cells #[.int .i64 x.kind, .string (bs x.id), .string (bs x.lab), .int .i64 x.slot, .int .i64 x.tot, .int .i64 x.lst, .slice a2 x.inner.length n2] 24) = wa := ⟨_, rfl⟩
      obtain ⟨f0, f1, f2, f3, f4, f5, f6⟩ := (show Box x.kind (bs x.id) (bs x.lab) x.slot x.tot x.lst a2 x.inner.length n2 wr.heap.size wa by rw [← hwa]; exact al_new _ _).cells
      have hka : Kp [] wr wa := by rw [← hwa]; exact (Kp.refl [] wr).alloc _
      have hvalx : valN d x = true := List.all_eq_true.1 HV.out x (List.mem_of_getElem? hx)
      have HC := Lib.hid (HT.out Q x a2 n2 wa hvalx (kp_has hvx hka))
      have KA := Lib.hid (KP.out.trans hka)
      have OA := Lib.hid (HO.out.kp hka (by simp))
      have HX := Lib.hid hx
      have hwi : IntKind.i64.wrap ((i : Int) + 1) = ((i + 1 : Nat) : Int) := by rw [IntKind.wrap_i64]; omega
      have HLL := Lib.hid hll
      clear hx hroww hvx htx hka hvalx hll
      go_wp2_with fail
      refine HC.out.mono ?_
      rintro r w3 ⟨rfl, hk3⟩
      have K3 := Lib.hid (KA.out.trans hk3)
      have O3 := Lib.hid (OA.out.kp hk3 (by simp))
      have hal : Kp [] w3 (w3.alloc (.cells #[.string (bs x.txt)] 9)) := (Kp.refl [] w3).alloc _
      have O4 := Lib.hid (O3.out.kp hal (by simp))
      have K4 := Lib.hid (K3.out.trans hal)
      have HBW := Lib.hid (show A ≤ (w3.alloc (.cells #[.string (bs x.txt)] 9)).heap.size by have := K4.out.size; have := HA.out; omega)
      have HLL2 := Lib.hid HLL.out
      clear hk3 hal hwa f0 f1 f2 f3 f4 f5 f6 e0 e1 e2 e3 e4 e5 e6
      have O5 : (w3.alloc (.cells #[.string (bs x.txt)] 9)).ownsRow A 9 1 (.slice sa i sc) i (strsC ((c.inner.take i).map Con.txt)) := by have := O4.out; unfold SOwn at this; rw [HLL.out] at this; exact this
      have O6 := Lib.hid O5
      clear O5
      go_wp2_with (at_builtin; refine wpList_append_own _ rfl _ _ 42 rfl A 9 i0 _ 1 16 Tryd.underlying42 hi0 hz0 hz1 hz2 rfl (by decide) _ _ _ rfl O6.out ⟨w3.heap.size, 0, none⟩ 1 1 [.string (bs x.txt)] rfl rfl (cell_one _ _ _) (by simp [Value.oneCell']) (by unfold maxLen; omega) (by omega) HBW.out ?_; intro v8 w8 hown8 hgrow8 _; have O8 := Lib.hid hown8; have G8 := Lib.hid hgrow8; clear hown8 hgrow8)
      refine ⟨⟨i + 1, by omega, rfl, ?_, grown_kp (B := A) G8.out (fun k e => (O6.out.lt k e).1) K4.out (by rw [HA.out]; exact Nat.le_refl _)⟩, by simp [intOf]; omega⟩
      unfold SOwn
      rw [List.take_add_one, HX.out]
      have := O8.out
      simp only [Option.toList_some, List.map_append, List.map_cons, List.map_nil, List.length_append, List.length_cons, List.length_nil, HLL.out, strsC] at this ⊢
      exact this
    · have hie : i = c.inner.length := by omega
      subst hie
      have hiz : ¬ ((c.inner.length : Int) < (c.inner.length : Int)) := by omega
      have hown := HO.out
      rw [List.take_length] at hown
      have hlen : (c.inner.map Con.txt).length = c.inner.length := List.length_map _
      have hpos : 0 < c.inner.length := List.length_pos_iff.2 HNE.out
      have hjb := joinC_bound (m := tlen d) (c.inner.map Con.txt) fun x hx => by
        obtain ⟨y, hy, rfl⟩ := List.mem_map.1 hx
        exact txt_len d y (List.all_eq_true.1 HV.out y hy)
      rw [hlen] at hjb
      have hj2 : c.inner.length * (tlen d + 1) ≤ 16 * (tlen d + 1) := Nat.mul_le_mul_right _ h16
      have hcells := fun g (hg : (Value.slice sa c.inner.length sc).ownBlock = some g) => World.ownsRow.cells hown hg
      rcases hown.2 with ⟨h0, _⟩ | ⟨g, cap, cur, hv, hB, hh, hc, -, -, -⟩
      · injection h0 with _ h0 _
        omega
      · injection hv with hv1 hv2 hv3
        subst hv1; subst hv3
        rw [hlen] at hc
        have hcl : ∀ (j : Nat) x, ((c.inner.map Con.txt).map bs)[j]? = some x → wr.cell? ⟨g, 0 + j, none⟩ = some (.string x) := fun j x hx => by
          rw [List.getElem?_map] at hx
          obtain ⟨s, hs, rfl⟩ := Option.map_eq_some_iff.1 hx
          have := hcells g rfl j (.string (bs s)) (by unfold strsC; rw [List.getElem?_map, hs]; rfl)
          rwa [add00] at this
        have hmm : ((c.inner.map Con.txt).map bs).map (·.data.toList) = c.inner.map Con.txt := by
          rw [List.map_map]
          exact List.map_id'' (fun _ => rfl) _
        have hsep : (⟨#[44]⟩ : ByteArray).data.toList = [44] := rfl
        have hJ := Tryd.strings_Join g 0 sc ((c.inner.map Con.txt).map bs) ⟨#[44]⟩ wr hcl (block_lt hh) (by rw [List.length_map, hlen]; omega) (by rw [List.length_map, hlen]; exact hc) (by rw [hmm, hsep, join_joinC]; omega)
        rw [hmm, hsep, join_joinC, List.length_map, hlen] at hJ
        have hjs : (bs (joinC (c.inner.map Con.txt))).size ≤ 70000000000 := by rw [bs_size]; omega
        have HF := Lib.hid (show (⟨#[40]⟩ : ByteArray) ++ bs (joinC (c.inner.map Con.txt)) ++ (⟨#[41]⟩ : ByteArray) = bs (40 :: (joinC (c.inner.map Con.txt) ++ [41])) by
          rw [show (⟨#[40]⟩ : ByteArray) = bs [40] from rfl, show (⟨#[41]⟩ : ByteArray) = bs [41] from rfl, bs_app, bs_app]; rfl)
        have HJ := Lib.hid (show Calls Tryd.prog 38 #[.slice (some ⟨g, 0, none⟩) c.inner.length sc, .string ⟨#[44]⟩] wr fun e w' => e = .returned (.string (bs (joinC (c.inner.map Con.txt)))) ∧ Below wr.heap.size wr w' from hJ)
        obtain ⟨J, hJe⟩ : ∃ J, bs (joinC (c.inner.map Con.txt)) = J := ⟨_, rfl⟩
        rw [hJe] at HF HJ hjs
        clear hJe
        clear hcl hJ hh hcells hjb hj2 hown hmm hll hlen hv2
        go_wp2_with fail
        refine HJ.out.mono ?_
        rintro r w2 ⟨rfl, hb2⟩
        have K2 := Lib.hid (KP.out.trans (Kp.of_below hb2))
        clear hb2
        go_wp2
        go_ret
        rw [HF.out]
        exact ⟨rfl, K2.out⟩
end Go.Proofs.YtoohnjlghjapnaaDoor
