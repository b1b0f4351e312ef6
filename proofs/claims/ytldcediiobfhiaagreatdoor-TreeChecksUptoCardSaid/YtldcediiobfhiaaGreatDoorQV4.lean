/- admit; endsAhead. endsAhead. -/
import Derived.Test.YtldcediiobfhiaaGreatDoorQV2
import Derived.Test.YtldcediiobfhiaaGreatDoorQV3
import Derived.Test.YtldcediiobfhiaaGreatDoorQRf
namespace Go.Proofs.YtldcediiobfhiaaGreatDoor.De
open Go.RowKit Go.Maps
theorem IMap.look {w : World} {M N : Nat} {f : Int → Option Nat} {D : DataW Unit} (h : IMap w M N f D) {n : Int} (hn : (Lit.int .i64 n).wf = true) :
  (Instr.lookup 82 (.map (some M)) (.int .i64 n) true).run Tryz.prog w = .ok (.tuple #[.int .i64 (((f n).getD 0 : Nat) : Int), .bool (f n).isSome]) w := by
 obtain ⟨v, ps, hrun, hv⟩ := h.own.look_ok lawI Tryz.underlying82 (Tryz.zeroValue3 _) (plainElem_int (H := Unit) Tryz.underlying3 (q := .i64) (a := 0) (by decide)) (keyI hn)
 obtain ⟨c, rfl, hc, -⟩ := plainElem_int_inv Tryz.underlying3 hv
 rw [h.has n hn] at hrun
 rw [hrun]
 cases hf : f n with
 | none =>
  have hh := h.has n hn
  rw [hf] at hh
  have e := congrArg Prod.fst hc
  simp only [Maps.atKey_of_not_has hh] at e
  cases e
  rfl
 | some p =>
  have e := congrArg Prod.fst hc
  simp only [h.val n p hn hf] at e
  cases e
  rfl
/-- What keeps a device from joining the others. -/
def admT (l : List ADev) (d : Dev) (la : List Atr) : Int := if checkE d la ≠ 0 then 41 else if (lastI l d.idx).isSome = true then 44 else if d.par ≠ 0 ∧ (lastI l d.par).isSome = false then 42 else 0
set_option maxRecDepth 100000 in
set_option maxHeartbeats 4000000 in
theorem admit_any {w : World} {V M : Nat} {sv : Value} {l : List DV} {D : DataW Unit} (hV : View w V sv M l D) (d : Dev) (la : List Atr) (hd : Has w d.av la) (hs : Sized d la) (hla : la.length ≤ 9223372036854775807) (hm : Max w) (hi : (Lit.int .i64 d.idx).wf = true) (hp : (Lit.int .i64 d.par).wf = true) :
  Calls Tryz.prog 79 #[.pointer (some ⟨V, 0, none⟩), devV d] w fun e w' => e = .returned (.int .i64 (admT (l.map (·.1)) d la)) ∧ Kp [] w w' := by
 obtain ⟨W1, hW1⟩ : ∃ W1, w.alloc (.cells #[.int .i64 d.idx, .int .i64 d.par, .string d.name, .string d.orig, .string d.sub, .string d.drv, .string d.ali, .int .i64 d.kind, .int .i64 d.num, d.av] 34) = W1 := ⟨_, rfl⟩
 obtain ⟨B, hB⟩ : ∃ B, w.heap.size = B := ⟨_, rfl⟩
 have hk1 : Kp [] w W1 := by rw [← hW1]; exact (Kp.refl [] w).alloc _
 have hbx : BoxAt W1 B #[.int .i64 d.idx, .int .i64 d.par, .string d.name, .string d.orig, .string d.sub, .string d.drv, .string d.ali, .int .i64 d.kind, .int .i64 d.num, d.av] := by rw [← hW1, ← hB]; exact heap_alloc_last w _
 have hV1 := hV.below hk1.bel
 have HC := Lib.hid fun W (h : Kp [] W1 W) => check_any d la W hla (hd.below (hk1.trans h).bel) hs ((hm.kp hk1).kp h)
 have hv1 : W1.cell? ⟨V, 1, none⟩ = some (.map (some M)) := by rw [cell_of_row _ _ _ _ _ _ hV1.box]; rfl
 have c0 : W1.cell? ⟨B, 0, none⟩ = some (.int .i64 d.idx) := hbx.cell 0
 have c1 : W1.cell? ⟨B, 1, none⟩ = some (.int .i64 d.par) := hbx.cell 1
 have hl0 : ∀ n, (Instr.lookup 82 (.map (some M)) (.int .i64 d.idx) true).run Tryz.prog (W1.drewN n) = .ok (.tuple #[.int .i64 ((((lastI (l.map (·.1))) d.idx).getD 0 : Nat) : Int), .bool ((lastI (l.map (·.1))) d.idx).isSome]) (W1.drewN n) := fun n => (hV1.map.below ((Kp.refl [] W1).drew n).bel).look hi
 have hl1 : ∀ n, (Instr.lookup 82 (.map (some M)) (.int .i64 d.par) true).run Tryz.prog (W1.drewN n) = .ok (.tuple #[.int .i64 ((((lastI (l.map (·.1))) d.par).getD 0 : Nat) : Int), .bool ((lastI (l.map (·.1))) d.par).isSome]) (W1.drewN n) := fun n => (hV1.map.below ((Kp.refl [] W1).drew n).bel).look hp
 have HK := Lib.hid hk1
 have HBX := Lib.hid hbx
 obtain ⟨R, hR⟩ : ∃ R, admT (l.map (·.1)) d la = R := ⟨_, rfl⟩
 rw [hR]
 have HR := Lib.hid hR
 unfold admT at HR
 obtain ⟨E, hE⟩ : ∃ E, checkE d la = E := ⟨_, rfl⟩
 rw [hE] at HC HR
 clear hV hV1 hm hk1 hbx hR hE hd hs hi hp
 obtain ⟨di, dp, dn, dor, du, dd, dl, dk, dm, dv⟩ := d
 unfold devV devC at *
 simp only at HC HR HBX hW1 c0 c1 hl0 hl1 ⊢
 generalize (((lastI (l.map (·.1))) di).getD 0 : Nat) = p0 at *
 generalize (((lastI (l.map (·.1))) dp).getD 0 : Nat) = p1 at *
 generalize ((lastI (l.map (·.1))) di).isSome = b0 at *
 generalize ((lastI (l.map (·.1))) dp).isSome = b1 at *
 go_enter Tryz.func79, Tryz.ntmps79
 go_upto_region 1 with fail
 go_quiet (fail)
 go_upto_region 2 with fail
 go_quiet (fail)
 have HKq := Lib.hid fun n => (Kp.refl [] W1).drew n
 have HKQ := Lib.hid fun n W (h : Kp [] (W1.drewN n) W) => HK.out.trans (((Kp.refl [] W1).drew n).trans h)
 have c2 : W1.cell? ⟨B, 2, none⟩ = some (.string dn) := HBX.out.cell 2
 have c3 : W1.cell? ⟨B, 3, none⟩ = some (.string dor) := HBX.out.cell 3
 have c4 : W1.cell? ⟨B, 4, none⟩ = some (.string du) := HBX.out.cell 4
 have c5 : W1.cell? ⟨B, 5, none⟩ = some (.string dd) := HBX.out.cell 5
 have c6 : W1.cell? ⟨B, 6, none⟩ = some (.string dl) := HBX.out.cell 6
 have c7 : W1.cell? ⟨B, 7, none⟩ = some (.int .i64 dk) := HBX.out.cell 7
 have c8 : W1.cell? ⟨B, 8, none⟩ = some (.int .i64 dm) := HBX.out.cell 8
 have c9 : W1.cell? ⟨B, 9, none⟩ = some (dv) := HBX.out.cell 9
 by_cases he : E = 0
 ·subst he
  rw [if_neg (by simp)] at HR
  cases b0 with
  | true =>
   have HR2 := Lib.hid (show R = 44 from HR.out.symm.trans (if_pos rfl))
   clear HR
   go_wp2_with (go_at_call 85; refine Calls.mono (by with_reducible exact HC.out _ (HKq.out _)) ?_; rintro e W2 ⟨rfl, hb2⟩; have HK2 := Lib.hid (HKQ.out _ _ (Kp.of_below hb2)); clear hb2)
   go_ret
   exact ⟨by rw [HR2.out]; rfl, HK2.out⟩
  | false =>
   rw [if_neg (by simp)] at HR
   by_cases hp : dp = 0
   ·subst hp
    have HR2 := Lib.hid (show R = 0 from HR.out.symm.trans (if_neg (by simp)))
    clear HR
    go_wp2_with (go_at_call 85; refine Calls.mono (by with_reducible exact HC.out _ (HKq.out _)) ?_; rintro e W2 ⟨rfl, hb2⟩; have hc1 : W2.cell? ⟨B, 1, none⟩ = some (.int .i64 0) := (hb2.cell (World.block_lt_of_cell? W1 _ c1)).trans c1; have HK2 := Lib.hid (HKQ.out _ _ (Kp.of_below hb2)); clear hb2)
    go_ret
    exact ⟨by rw [HR2.out]; rfl, HK2.out⟩
   ·have hp2 : (dp == 0) = false := beq_eq_false_iff_ne.2 hp
    cases b1 with
    | true =>
     have HR2 := Lib.hid (show R = 0 from HR.out.symm.trans (if_neg (by simp)))
     clear HR
     go_wp2_with (go_at_call 85; refine Calls.mono (by with_reducible exact HC.out _ (HKq.out _)) ?_; rintro e W2 ⟨rfl, hb2⟩; have hc1 : W2.cell? ⟨B, 1, none⟩ = some (.int .i64 dp) := (hb2.cell (World.block_lt_of_cell? W1 _ c1)).trans c1; have HK2 := Lib.hid (HKQ.out _ _ (Kp.of_below hb2)); clear hb2)
     go_ret
     exact ⟨by rw [HR2.out]; rfl, HK2.out⟩
    | false =>
     have HR2 := Lib.hid (show R = 42 from HR.out.symm.trans (if_pos ⟨hp, rfl⟩))
     have Hp := Lib.hid hp
     clear HR hp
     go_wp2_with (go_at_call 85; refine Calls.mono (by with_reducible exact HC.out _ (HKq.out _)) ?_; rintro e W2 ⟨rfl, hb2⟩; have hc1 : W2.cell? ⟨B, 1, none⟩ = some (.int .i64 dp) := (hb2.cell (World.block_lt_of_cell? W1 _ c1)).trans c1; have HK2 := Lib.hid (HKQ.out _ _ (Kp.of_below hb2)); clear hb2)
     go_ret
     exact ⟨by rw [HR2.out]; rfl, HK2.out⟩
 ·have HR2 := Lib.hid (show R = 41 from HR.out.symm.trans (if_pos he))
  have he2 : (E == 0) = false := beq_eq_false_iff_ne.2 he
  clear HR he
  go_wp2_with (go_at_call 85; refine Calls.mono (by with_reducible exact HC.out _ (HKq.out _)) ?_; rintro e W2 ⟨rfl, hb2⟩; have HK2 := Lib.hid (HKQ.out _ _ (Kp.of_below hb2)); clear hb2)
  go_ret
  exact ⟨by rw [HR2.out]; rfl, HK2.out⟩
end Go.Proofs.YtldcediiobfhiaaGreatDoor.De
namespace Go.Proofs.YtldcediiobfhiaaGreatDoor.De
open Go.RowKit Go.Maps
/-- Whether the last device, if there is one, comes ahead of an origin. -/
def endsE (l : List DV) (o : ByteArray) : Bool := match l.getLast? with
 | none => true
 | some x => decide (ordA l o x.1 < 0)
set_option maxRecDepth 100000 in
set_option maxHeartbeats 4000000 in
theorem endsAhead_any {w : World} {V M : Nat} {sv : Value} {l : List DV} {D : DataW Unit} (hV : View w V sv M l D) (ht : TOk l) (o : ByteArray) (ho : o.size ≤ 4611686018427387904) :
  Calls Tryz.prog 91 #[.pointer (some ⟨V, 0, none⟩), .string o] w fun e w' => e = .returned (.bool (endsE l o)) ∧ Kp [] w w' := by
 obtain ⟨a, c, rfl, hrv⟩ := hV.dev.form
 have hv0 : w.cell? ⟨V, 0, none⟩ = some (.slice a l.length c) := by rw [cell_of_row _ _ _ _ _ _ hV.box]; rfl
 obtain ⟨R, hR⟩ : ∃ R, endsE l o = R := ⟨_, rfl⟩
 rw [hR]
 unfold endsE at hR
 obtain ⟨L, hL⟩ : ∃ L, l.length = L := ⟨_, rfl⟩
 have hn1 := ht.n
 by_cases h0 : L = 0
 ·have hl : l = [] := List.length_eq_zero_iff.1 (by omega)
  subst hl
  have HR := Lib.hid (show R = true from hR.symm)
  rw [hL] at hv0
  subst h0
  clear hV ht hrv hR hL hn1
  go_enter Tryz.func91, Tryz.ntmps91
  go_wp2
  go_ret
  exact ⟨by rw [HR.out]; rfl, Kp.refl [] _⟩
 obtain ⟨K, hK⟩ : ∃ K, L = K + 1 := ⟨L - 1, by omega⟩
 have hKl : K < l.length := by omega
 obtain ⟨x, hx⟩ : ∃ x, l[K]? = some x := ⟨_, List.getElem?_eq_getElem hKl⟩
 have hlast : l.getLast? = some x := by rw [List.getLast?_eq_getElem?, show l.length - 1 = K by omega, hx]
 rw [hlast] at hR
 simp only at hR
 obtain ⟨g, o', rfl, hcap, hg, hr⟩ := hrv (fun e => by rw [e] at hx; simp at hx)
 have hxm := List.mem_of_getElem? hx
 obtain ⟨vb, vn, vc, hv⟩ := hV.dev.slices x hxm
 have hra := hr.at_ K x hx
 have HO := Lib.hid fun W (h : Kp [] w W) => origin80_val (hV.below h.bel) x.1 vb vn vc ht (ht.o x hxm) (ht.wp x hxm)
 have HZ := Lib.hid (orgB_size ht (ht.o x hxm))
 have HC := Lib.hid fun W (h : Kp [] w W) => Nm.compare_any (orgB l x.1) o W (by have := HZ.out; omega) ho
 have hord : ordA l o x.1 = (Nm.cmpB (orgB l x.1).data.toList o.data.toList).1 := by rw [orgB_list]; rfl
 rw [hord] at hR
 rw [hv] at hra
 obtain ⟨ax, hax⟩ : ∃ a, x.1 = a := ⟨_, rfl⟩
 rw [hax] at hra HO HC HZ hR
 unfold dvC at hra
 obtain ⟨u, hu⟩ : ∃ u, orgB l ax = u := ⟨_, rfl⟩
 rw [hu] at HO HC hR
 rw [hL] at hv0 hcap hn1
 have hS0 : (fun W : World => W.cell? ⟨V, 0, none⟩ = some (.slice (some ⟨g, o', none⟩) L c) ∧ W.cell? ⟨g, o' + K * 10, none⟩ = some (.int .i64 ax.idx) ∧ W.cell? ⟨g, o' + K * 10 + 1, none⟩ = some (.int .i64 ax.par) ∧ W.cell? ⟨g, o' + K * 10 + 2, none⟩ = some (.string ax.name) ∧ W.cell? ⟨g, o' + K * 10 + 3, none⟩ = some (.string ax.orig) ∧ W.cell? ⟨g, o' + K * 10 + 4, none⟩ = some (.string ax.sub) ∧ W.cell? ⟨g, o' + K * 10 + 5, none⟩ = some (.string ax.drv) ∧ W.cell? ⟨g, o' + K * 10 + 6, none⟩ = some (.string ax.ali) ∧ W.cell? ⟨g, o' + K * 10 + 7, none⟩ = some (.int .i64 ax.kind) ∧ W.cell? ⟨g, o' + K * 10 + 8, none⟩ = some (.int .i64 ax.num) ∧ W.cell? ⟨g, o' + K * 10 + 9, none⟩ = some (.slice vb vn vc) ∧ Kp [] w W) w := ⟨hv0, hra 0 _ rfl, hra 1 _ rfl, hra 2 _ rfl, hra 3 _ rfl, hra 4 _ rfl, hra 5 _ rfl, hra 6 _ rfl, hra 7 _ rfl, hra 8 _ rfl, hra 9 _ rfl, Kp.refl [] w⟩
 have HKS := Lib.hid (show ∀ W', Kp [] w W' → (fun W : World => W.cell? ⟨V, 0, none⟩ = some (.slice (some ⟨g, o', none⟩) L c) ∧ W.cell? ⟨g, o' + K * 10, none⟩ = some (.int .i64 ax.idx) ∧ W.cell? ⟨g, o' + K * 10 + 1, none⟩ = some (.int .i64 ax.par) ∧ W.cell? ⟨g, o' + K * 10 + 2, none⟩ = some (.string ax.name) ∧ W.cell? ⟨g, o' + K * 10 + 3, none⟩ = some (.string ax.orig) ∧ W.cell? ⟨g, o' + K * 10 + 4, none⟩ = some (.string ax.sub) ∧ W.cell? ⟨g, o' + K * 10 + 5, none⟩ = some (.string ax.drv) ∧ W.cell? ⟨g, o' + K * 10 + 6, none⟩ = some (.string ax.ali) ∧ W.cell? ⟨g, o' + K * 10 + 7, none⟩ = some (.int .i64 ax.kind) ∧ W.cell? ⟨g, o' + K * 10 + 8, none⟩ = some (.int .i64 ax.num) ∧ W.cell? ⟨g, o' + K * 10 + 9, none⟩ = some (.slice vb vn vc) ∧ Kp [] w W) W' from fun W' h => by
  have hc : ∀ {q : Addr} {z : Value}, w.cell? q = some z → W'.cell? q = some z := fun {q z} e => (h.bel.cell (World.block_lt_of_cell? w _ e)).trans e
  obtain ⟨e0, e1, e2, e3, e4, e5, e6, e7, e8, e9, e10, _⟩ := hS0
  exact ⟨hc e0, hc e1, hc e2, hc e3, hc e4, hc e5, hc e6, hc e7, hc e8, hc e9, hc e10, h⟩)
 have HST := Lib.hid (HKS.out _ ((Kp.refl [] w).drew 1))
 have HO2 := Lib.hid (show ∀ W, (W.cell? ⟨V, 0, none⟩ = some (.slice (some ⟨g, o', none⟩) L c) ∧ W.cell? ⟨g, o' + K * 10, none⟩ = some (.int .i64 ax.idx) ∧ W.cell? ⟨g, o' + K * 10 + 1, none⟩ = some (.int .i64 ax.par) ∧ W.cell? ⟨g, o' + K * 10 + 2, none⟩ = some (.string ax.name) ∧ W.cell? ⟨g, o' + K * 10 + 3, none⟩ = some (.string ax.orig) ∧ W.cell? ⟨g, o' + K * 10 + 4, none⟩ = some (.string ax.sub) ∧ W.cell? ⟨g, o' + K * 10 + 5, none⟩ = some (.string ax.drv) ∧ W.cell? ⟨g, o' + K * 10 + 6, none⟩ = some (.string ax.ali) ∧ W.cell? ⟨g, o' + K * 10 + 7, none⟩ = some (.int .i64 ax.kind) ∧ W.cell? ⟨g, o' + K * 10 + 8, none⟩ = some (.int .i64 ax.num) ∧ W.cell? ⟨g, o' + K * 10 + 9, none⟩ = some (.slice vb vn vc) ∧ Kp [] w W) → Calls Tryz.prog 80 #[.pointer (some ⟨V, 0, none⟩), .agg #[.int .i64 ax.idx, .int .i64 ax.par, .string ax.name, .string ax.orig, .string ax.sub, .string ax.drv, .string ax.ali, .int .i64 ax.kind, .int .i64 ax.num, .slice vb vn vc]] W fun e w' => e = .returned (.string u) ∧ Kp [] w w' from fun W h => (HO.out W h.2.2.2.2.2.2.2.2.2.2.2).mono fun _ _ ⟨he, hk⟩ => ⟨he, h.2.2.2.2.2.2.2.2.2.2.2.trans hk⟩)
 have HC2 := Lib.hid (show ∀ W, (W.cell? ⟨V, 0, none⟩ = some (.slice (some ⟨g, o', none⟩) L c) ∧ W.cell? ⟨g, o' + K * 10, none⟩ = some (.int .i64 ax.idx) ∧ W.cell? ⟨g, o' + K * 10 + 1, none⟩ = some (.int .i64 ax.par) ∧ W.cell? ⟨g, o' + K * 10 + 2, none⟩ = some (.string ax.name) ∧ W.cell? ⟨g, o' + K * 10 + 3, none⟩ = some (.string ax.orig) ∧ W.cell? ⟨g, o' + K * 10 + 4, none⟩ = some (.string ax.sub) ∧ W.cell? ⟨g, o' + K * 10 + 5, none⟩ = some (.string ax.drv) ∧ W.cell? ⟨g, o' + K * 10 + 6, none⟩ = some (.string ax.ali) ∧ W.cell? ⟨g, o' + K * 10 + 7, none⟩ = some (.int .i64 ax.kind) ∧ W.cell? ⟨g, o' + K * 10 + 8, none⟩ = some (.int .i64 ax.num) ∧ W.cell? ⟨g, o' + K * 10 + 9, none⟩ = some (.slice vb vn vc) ∧ Kp [] w W) → Calls Tryz.prog 102 #[.string u, .string o] W fun e w' => e = .returned (.tuple #[.int .i64 (Nm.cmpB u.data.toList o.data.toList).1, .int .i64 (Nm.cmpB u.data.toList o.data.toList).2]) ∧ Kp [] w w' from fun W h => (HC.out W h.2.2.2.2.2.2.2.2.2.2.2).mono fun _ _ ⟨he, hk⟩ => ⟨he, h.2.2.2.2.2.2.2.2.2.2.2.trans (Kp.of_below hk)⟩)
 have hLz : (L : Int) - 1 = (K : Int) := by omega
 have hwr : IntKind.i64.wrap ((L : Int) - 1) = (K : Int) := by rw [IntKind.wrap_i64]; omega
 have hKz : (K : Int) < (L : Int) := by omega
 have hK0 : (0 : Int) ≤ (K : Int) := by omega
 have hwr2 : IntKind.i64.wrap (K : Int) = (K : Int) := by rw [IntKind.wrap_i64]; omega
 have hL0 : ((L : Int) == 0) = false := beq_eq_false_iff_ne.2 (by omega)
 generalize (Nm.cmpB u.data.toList o.data.toList).1 = r1 at *
 generalize (Nm.cmpB u.data.toList o.data.toList).2 = r2 at *
 have HR := Lib.hid hR
 have H0 := Lib.hid h0
 clear hra hr hrv hxm hx hv hax hu hord hS0 HO HC hV ht hL hg hR hlast hKl hK h0
 go_enter Tryz.func91, Tryz.ntmps91
 go_upto_region 3 with fail
 go_region_held3 (fun W => W.cell? ⟨V, 0, none⟩ = some (.slice (some ⟨g, o', none⟩) L c) ∧ W.cell? ⟨g, o' + K * 10, none⟩ = some (.int .i64 ax.idx) ∧ W.cell? ⟨g, o' + K * 10 + 1, none⟩ = some (.int .i64 ax.par) ∧ W.cell? ⟨g, o' + K * 10 + 2, none⟩ = some (.string ax.name) ∧ W.cell? ⟨g, o' + K * 10 + 3, none⟩ = some (.string ax.orig) ∧ W.cell? ⟨g, o' + K * 10 + 4, none⟩ = some (.string ax.sub) ∧ W.cell? ⟨g, o' + K * 10 + 5, none⟩ = some (.string ax.drv) ∧ W.cell? ⟨g, o' + K * 10 + 6, none⟩ = some (.string ax.ali) ∧ W.cell? ⟨g, o' + K * 10 + 7, none⟩ = some (.int .i64 ax.kind) ∧ W.cell? ⟨g, o' + K * 10 + 8, none⟩ = some (.int .i64 ax.num) ∧ W.cell? ⟨g, o' + K * 10 + 9, none⟩ = some (.slice vb vn vc) ∧ Kp [] w W) (first | exact HST.out | assumption | exact HKS.out _ (by assumption)) (first | (go_at_call 80; refine Calls.mono (by with_reducible exact HO2.out _ (by assumption)) ?_; rintro e W ⟨rfl, hb⟩) | (go_at_call 102; refine Calls.mono (by with_reducible exact HC2.out _ (by assumption)) ?_; rintro e W ⟨rfl, hb⟩))
 all_goals
  go_wp2
  go_ret
  exact ⟨by rw [← HR.out]; rfl, by assumption⟩
end Go.Proofs.YtldcediiobfhiaaGreatDoor.De
