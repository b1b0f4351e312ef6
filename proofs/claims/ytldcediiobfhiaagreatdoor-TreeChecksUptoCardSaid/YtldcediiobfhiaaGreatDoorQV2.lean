/- The origin of a device, its depth, the search of a place. The place of an origin. The place of an origin among the devices; whether the last device comes ahead of it. -/
import Derived.Test.YtldcediiobfhiaaGreatDoorQV1
import Derived.Test.YtldcediiobfhiaaGreatDoorQNp
import Derived.Deep.RegionHeld3
namespace Go.Proofs.YtldcediiobfhiaaGreatDoor.De
open Go.RowKit Go.Maps
set_option maxRecDepth 100000 in
theorem origin80_any {w : World} {V M : Nat} {sv : Value} {l : List DV} {D : DataW Unit} (hV : View w V sv M l D) (d : ADev) (b : Option Addr) (n c : Nat) (ht : TOk l) (hd : d.orig.size ≤ 300) (hwf : (Lit.int .i64 d.par).wf = true) :
  Calls Tryz.prog 80 #[.pointer (some ⟨V, 0, none⟩), .agg (dvC d (.slice b n c)).toArray] w fun e w' => ∃ u : ByteArray, e = .returned (.string u) ∧ u.data.toList = trlA ADev.orig l d ∧ Kp [] w w' := by
 have HT := Lib.hid fun W (h : Kp [] w W) => trail_orig (hV.below h.bel) d (.slice b n c) ⟨_, _, _, rfl⟩ hd ht.o hwf ht.wp hV.dev.slices
 have HK := Lib.hid fun o => (Kp.refl [] w).alloc o
 clear hV
 unfold dvC at *
 go_enter Tryz.func80, Tryz.ntmps80
 go_wp2_with (go_at_call 107; refine Calls.mono (by with_reducible exact HT.out _ (HK.out _)) ?_; rintro e w2 ⟨u, rfl, hu, hk⟩; have HU := Lib.hid hu; have HK2 := Lib.hid ((HK.out _).trans hk); clear hu hk)
 go_ret
 exact ⟨u, rfl, HU.out, HK2.out⟩
theorem depth81_any (u : ByteArray) (w : World) : Calls Tryz.prog 81 #[.string u] w fun e w' => e = .returned (.int .i64 (Lib.countByte u.data.toList 47)) ∧ w' = w := by
 have HC := Lib.hid (Tryz.strings_Count_one u 47 w)
 go_enter Tryz.func81, Tryz.ntmps81
 go_wp2_with (go_at_call 112; refine Calls.mono (by with_reducible exact HC.out) ?_; rintro e w2 ⟨rfl, rfl⟩)
 go_ret
 exact ⟨rfl, rfl⟩
set_option maxRecDepth 100000 in
set_option maxHeartbeats 1000000 in
/-- sort.Search, whatever the closure says: the place is one where it turns from false to true. -/
theorem search_any (g : Nat) (cb : Array Value) (n : Nat) (p : Nat → Bool) (w : World) (hn : n < 4611686018427387904) (eg : ∀ args w, (callFunc g args).run Tryz.prog w = .ok (.enter g args) w)
  (hf : ∀ W, Kp [] w W → ∀ i, i < n → Calls Tryz.prog g (#[.int .i64 i] ++ cb) W fun e w' => e = .returned (.bool (p i)) ∧ Kp [] W w') :
  Calls Tryz.prog 100 #[.int .i64 n, .func (.func g) #[] cb] w fun e w' => ∃ r : Nat, e = .returned (.int .i64 r) ∧ (r ≤ n ∧ (0 < r → p (r - 1) = false) ∧ (r < n → p r = true)) ∧ Kp [] w w' := by
 have HF := Lib.hid hf
 clear hf
 go_enter Tryz.func100, Tryz.ntmps100
 go_wp2
 go_loopw [5, 6, 7] (fun s5 s6 _ wr => ∃ lo hi : Nat, s5 = .int .i64 lo ∧ s6 = .int .i64 hi ∧ lo ≤ hi ∧ hi ≤ n ∧ (0 < lo → p (lo - 1) = false) ∧ (hi < n → p hi = true) ∧ Kp [] w wr) (fun s5 s6 _ _ => (intOf s6).toNat - (intOf s5).toNat)
 case atStart => exact ⟨0, n, rfl, rfl, Nat.zero_le _, Nat.le_refl _, fun h => absurd h (by omega), fun h => absurd h (by omega), Kp.refl [] w⟩
 case round =>
  obtain ⟨lo, hi, rfl, rfl, hlh, hin, h1, h2, hk⟩ := hrel
  have H1 := Lib.hid h1
  have H2 := Lib.hid h2
  have HK := Lib.hid hk
  clear h1 h2 hk
  by_cases hlt : lo < hi
  ·have hc := HF.out _ HK.out ((lo + hi) / 2) (by omega)
   rw [show (((lo + hi) / 2 : Nat) : Int) = ((lo : Int) + (hi : Int)) / 2 by omega] at hc
   cases hp : p ((lo + hi) / 2) <;> rw [hp] at hc
   ·have HP := Lib.hid hp
    clear hp
    go_wp2_with (go_at_fn g; refine hc.mono ?_; rintro e w' ⟨rfl, hk2⟩; have HK2 := Lib.hid (HK.out.trans hk2); clear hk2)
    exact ⟨⟨(lo + hi) / 2 + 1, hi, by rw [show ((lo : Int) + (hi : Int)) / 2 + 1 = (((lo + hi) / 2 + 1 : Nat) : Int) by omega], rfl, by omega, hin, fun _ => HP.out, H2.out, HK2.out⟩, by simp [intOf]; omega⟩
   ·have HP := Lib.hid hp
    clear hp
    go_wp2_with (go_at_fn g; refine hc.mono ?_; rintro e w' ⟨rfl, hk2⟩; have HK2 := Lib.hid (HK.out.trans hk2); clear hk2)
    exact ⟨⟨lo, (lo + hi) / 2, rfl, by rw [show ((lo : Int) + (hi : Int)) / 2 = (((lo + hi) / 2 : Nat) : Int) by omega], by omega, by omega, H1.out, fun _ => HP.out, HK2.out⟩, by simp [intOf]; omega⟩
  ·obtain rfl : hi = lo := by omega
   go_wp2
   go_ret
   exact ⟨hi, rfl, ⟨hin, H1.out, H2.out⟩, HK.out⟩
end Go.Proofs.YtldcediiobfhiaaGreatDoor.De
namespace Go.Proofs.YtldcediiobfhiaaGreatDoor.De
open Go.RowKit Go.Maps
theorem trail_len (f : ADev → List UInt8) : ∀ (r : List ADev) (t : List UInt8), (∀ a ∈ r, (f a).length ≤ 300) → (trail f r t).length ≤ 301 * r.length + t.length
 | [], t, _ => by simp [trail]
 | a :: r, t, h => by
  have := trail_len f r (47 :: (f a ++ t)) (fun b hb => h b (List.mem_cons_of_mem _ hb))
  have := h a (List.mem_cons_self ..)
  rw [trail]
  simp only [List.length_cons, List.length_append] at *
  omega
theorem trlA_len {l : List DV} (ht : TOk l) {d : ADev} (hd : d.orig.size ≤ 300) : (trlA ADev.orig l d).length ≤ 3000 := by
 unfold trlA
 have h := trail_len (fun e => e.orig.data.toList) ((ancL l 7 d.par).map (·.1)) (47 :: d.orig.data.toList) (fun a ha => by
  obtain ⟨x, hx, rfl⟩ := List.mem_map.1 ha
  have := ht.o x (ancL_mem _ _ x hx)
  rw [Lib.size_eq] at this
  exact this)
 have h2 := ancL_len (l := l) 7 d.par
 rw [Lib.size_eq] at hd
 simp only [List.length_map, List.length_cons] at h
 omega
/-- The origin, as a string. -/
def orgB (l : List DV) (d : ADev) : ByteArray := ⟨(trlA ADev.orig l d).toArray⟩
theorem orgB_list (l : List DV) (d : ADev) : (orgB l d).data.toList = trlA ADev.orig l d := by simp [orgB]
theorem orgB_size {l : List DV} (ht : TOk l) {d : ADev} (hd : d.orig.size ≤ 300) : (orgB l d).size ≤ 3000 := by
 rw [Lib.size_eq, orgB_list]
 exact trlA_len ht hd
theorem bytes_of {u : ByteArray} {L : List UInt8} (h : u.data.toList = L) : u = ⟨L.toArray⟩ := by
 subst h
 cases u
 simp
theorem origin80_val {w : World} {V M : Nat} {sv : Value} {l : List DV} {D : DataW Unit} (hV : View w V sv M l D) (d : ADev) (b : Option Addr) (n c : Nat) (ht : TOk l) (hd : d.orig.size ≤ 300) (hwf : (Lit.int .i64 d.par).wf = true) :
  Calls Tryz.prog 80 #[.pointer (some ⟨V, 0, none⟩), .agg #[.int .i64 d.idx, .int .i64 d.par, .string d.name, .string d.orig, .string d.sub, .string d.drv, .string d.ali, .int .i64 d.kind, .int .i64 d.num, .slice b n c]] w fun e w' => e = .returned (.string (orgB l d)) ∧ Kp [] w w' :=
 (origin80_any hV d b n c ht hd hwf).mono fun _ _ ⟨u, he, hu, hk⟩ => ⟨by rw [he, bytes_of hu]; rfl, hk⟩
/-- How the origin at a place stands to another one. -/
def ordA (l : List DV) (o : ByteArray) (d : ADev) : Int := (Nm.cmpB (trlA ADev.orig l d) o.data.toList).1
set_option maxRecDepth 100000 in
set_option maxHeartbeats 4000000 in
theorem place1_any {w : World} {V M : Nat} {sv : Value} {l : List DV} {D : DataW Unit} (hV : View w V sv M l D) (ht : TOk l) (c1 c2 : Nat) (o : ByteArray) (h1 : w.cell? ⟨c1, 0, none⟩ = some (.pointer (some ⟨V, 0, none⟩))) (h2 : w.cell? ⟨c2, 0, none⟩ = some (.string o)) (ho : o.size ≤ 4611686018427387904) (i : Nat) (x : DV) (hx : l[i]? = some x) :
  Calls Tryz.prog 101 #[.int .i64 i, .pointer (some ⟨c1, 0, none⟩), .pointer (some ⟨c2, 0, none⟩)] w fun e w' => e = .returned (.bool (decide (0 ≤ ordA l o x.1))) ∧ Kp [] w w' := by
 obtain ⟨a, c, rfl, hrv⟩ := hV.dev.form
 obtain ⟨g, o', rfl, hcap, hg, hr⟩ := hrv (fun e => by rw [e] at hx; simp at hx)
 have hxm := List.mem_of_getElem? hx
 have hil : i < l.length := (List.getElem?_eq_some_iff.1 hx).1
 have hn1 := ht.n
 obtain ⟨vb, vn, vc, hv⟩ := hV.dev.slices x hxm
 have hra := hr.at_ i x hx
 have hv0 : w.cell? ⟨V, 0, none⟩ = some (.slice (some ⟨g, o', none⟩) l.length c) := by rw [cell_of_row _ _ _ _ _ _ hV.box]; rfl
 have HO := Lib.hid fun W (h : Kp [] w W) => origin80_val (hV.below h.bel) x.1 vb vn vc ht (ht.o x hxm) (ht.wp x hxm)
 have HZ := Lib.hid (orgB_size ht (ht.o x hxm))
 have HC := Lib.hid fun W (h : Kp [] w W) => Nm.compare_any (orgB l x.1) o W (by have := HZ.out; omega) ho
 have hord : ordA l o x.1 = (Nm.cmpB (orgB l x.1).data.toList o.data.toList).1 := by rw [orgB_list]; rfl
 rw [hord]
 rw [hv] at hra
 obtain ⟨ax, hax⟩ : ∃ a, x.1 = a := ⟨_, rfl⟩
 rw [hax] at hra HO HC HZ ⊢
 unfold dvC at hra
 obtain ⟨u, hu⟩ : ∃ u, orgB l ax = u := ⟨_, rfl⟩
 rw [hu] at HO HC ⊢
 have hS0 : (fun W : World => W.cell? ⟨c1, 0, none⟩ = some (.pointer (some ⟨V, 0, none⟩)) ∧ W.cell? ⟨V, 0, none⟩ = some (.slice (some ⟨g, o', none⟩) l.length c) ∧ W.cell? ⟨g, o' + i * 10, none⟩ = some (.int .i64 ax.idx) ∧ W.cell? ⟨g, o' + i * 10 + 1, none⟩ = some (.int .i64 ax.par) ∧ W.cell? ⟨g, o' + i * 10 + 2, none⟩ = some (.string ax.name) ∧ W.cell? ⟨g, o' + i * 10 + 3, none⟩ = some (.string ax.orig) ∧ W.cell? ⟨g, o' + i * 10 + 4, none⟩ = some (.string ax.sub) ∧ W.cell? ⟨g, o' + i * 10 + 5, none⟩ = some (.string ax.drv) ∧ W.cell? ⟨g, o' + i * 10 + 6, none⟩ = some (.string ax.ali) ∧ W.cell? ⟨g, o' + i * 10 + 7, none⟩ = some (.int .i64 ax.kind) ∧ W.cell? ⟨g, o' + i * 10 + 8, none⟩ = some (.int .i64 ax.num) ∧ W.cell? ⟨g, o' + i * 10 + 9, none⟩ = some (.slice vb vn vc) ∧ W.cell? ⟨c2, 0, none⟩ = some (.string o) ∧ Kp [] w W) w := ⟨h1, hv0, hra 0 _ rfl, hra 1 _ rfl, hra 2 _ rfl, hra 3 _ rfl, hra 4 _ rfl, hra 5 _ rfl, hra 6 _ rfl, hra 7 _ rfl, hra 8 _ rfl, hra 9 _ rfl, h2, Kp.refl [] w⟩
 have HKS := Lib.hid (show ∀ W', Kp [] w W' → (fun W : World => W.cell? ⟨c1, 0, none⟩ = some (.pointer (some ⟨V, 0, none⟩)) ∧ W.cell? ⟨V, 0, none⟩ = some (.slice (some ⟨g, o', none⟩) l.length c) ∧ W.cell? ⟨g, o' + i * 10, none⟩ = some (.int .i64 ax.idx) ∧ W.cell? ⟨g, o' + i * 10 + 1, none⟩ = some (.int .i64 ax.par) ∧ W.cell? ⟨g, o' + i * 10 + 2, none⟩ = some (.string ax.name) ∧ W.cell? ⟨g, o' + i * 10 + 3, none⟩ = some (.string ax.orig) ∧ W.cell? ⟨g, o' + i * 10 + 4, none⟩ = some (.string ax.sub) ∧ W.cell? ⟨g, o' + i * 10 + 5, none⟩ = some (.string ax.drv) ∧ W.cell? ⟨g, o' + i * 10 + 6, none⟩ = some (.string ax.ali) ∧ W.cell? ⟨g, o' + i * 10 + 7, none⟩ = some (.int .i64 ax.kind) ∧ W.cell? ⟨g, o' + i * 10 + 8, none⟩ = some (.int .i64 ax.num) ∧ W.cell? ⟨g, o' + i * 10 + 9, none⟩ = some (.slice vb vn vc) ∧ W.cell? ⟨c2, 0, none⟩ = some (.string o) ∧ Kp [] w W) W' from fun W' h => by
  have hc : ∀ {q : Addr} {z : Value}, w.cell? q = some z → W'.cell? q = some z := fun {q z} e => (h.bel.cell (World.block_lt_of_cell? w _ e)).trans e
  obtain ⟨e0, e1, e2, e3, e4, e5, e6, e7, e8, e9, e10, e11, e12, _⟩ := hS0
  exact ⟨hc e0, hc e1, hc e2, hc e3, hc e4, hc e5, hc e6, hc e7, hc e8, hc e9, hc e10, hc e11, hc e12, h⟩)
 have HST := Lib.hid (HKS.out _ ((Kp.refl [] w).drew 1))
 have HO2 := Lib.hid (show ∀ W, (W.cell? ⟨c1, 0, none⟩ = some (.pointer (some ⟨V, 0, none⟩)) ∧ W.cell? ⟨V, 0, none⟩ = some (.slice (some ⟨g, o', none⟩) l.length c) ∧ W.cell? ⟨g, o' + i * 10, none⟩ = some (.int .i64 ax.idx) ∧ W.cell? ⟨g, o' + i * 10 + 1, none⟩ = some (.int .i64 ax.par) ∧ W.cell? ⟨g, o' + i * 10 + 2, none⟩ = some (.string ax.name) ∧ W.cell? ⟨g, o' + i * 10 + 3, none⟩ = some (.string ax.orig) ∧ W.cell? ⟨g, o' + i * 10 + 4, none⟩ = some (.string ax.sub) ∧ W.cell? ⟨g, o' + i * 10 + 5, none⟩ = some (.string ax.drv) ∧ W.cell? ⟨g, o' + i * 10 + 6, none⟩ = some (.string ax.ali) ∧ W.cell? ⟨g, o' + i * 10 + 7, none⟩ = some (.int .i64 ax.kind) ∧ W.cell? ⟨g, o' + i * 10 + 8, none⟩ = some (.int .i64 ax.num) ∧ W.cell? ⟨g, o' + i * 10 + 9, none⟩ = some (.slice vb vn vc) ∧ W.cell? ⟨c2, 0, none⟩ = some (.string o) ∧ Kp [] w W) → Calls Tryz.prog 80 #[.pointer (some ⟨V, 0, none⟩), .agg #[.int .i64 ax.idx, .int .i64 ax.par, .string ax.name, .string ax.orig, .string ax.sub, .string ax.drv, .string ax.ali, .int .i64 ax.kind, .int .i64 ax.num, .slice vb vn vc]] W fun e w' => e = .returned (.string u) ∧ Kp [] w w' from fun W h => (HO.out W h.2.2.2.2.2.2.2.2.2.2.2.2.2).mono fun _ _ ⟨he, hk⟩ => ⟨he, h.2.2.2.2.2.2.2.2.2.2.2.2.2.trans hk⟩)
 have HC2 := Lib.hid (show ∀ W, (W.cell? ⟨c1, 0, none⟩ = some (.pointer (some ⟨V, 0, none⟩)) ∧ W.cell? ⟨V, 0, none⟩ = some (.slice (some ⟨g, o', none⟩) l.length c) ∧ W.cell? ⟨g, o' + i * 10, none⟩ = some (.int .i64 ax.idx) ∧ W.cell? ⟨g, o' + i * 10 + 1, none⟩ = some (.int .i64 ax.par) ∧ W.cell? ⟨g, o' + i * 10 + 2, none⟩ = some (.string ax.name) ∧ W.cell? ⟨g, o' + i * 10 + 3, none⟩ = some (.string ax.orig) ∧ W.cell? ⟨g, o' + i * 10 + 4, none⟩ = some (.string ax.sub) ∧ W.cell? ⟨g, o' + i * 10 + 5, none⟩ = some (.string ax.drv) ∧ W.cell? ⟨g, o' + i * 10 + 6, none⟩ = some (.string ax.ali) ∧ W.cell? ⟨g, o' + i * 10 + 7, none⟩ = some (.int .i64 ax.kind) ∧ W.cell? ⟨g, o' + i * 10 + 8, none⟩ = some (.int .i64 ax.num) ∧ W.cell? ⟨g, o' + i * 10 + 9, none⟩ = some (.slice vb vn vc) ∧ W.cell? ⟨c2, 0, none⟩ = some (.string o) ∧ Kp [] w W) → Calls Tryz.prog 102 #[.string u, .string o] W fun e w' => e = .returned (.tuple #[.int .i64 (Nm.cmpB u.data.toList o.data.toList).1, .int .i64 (Nm.cmpB u.data.toList o.data.toList).2]) ∧ Kp [] w w' from fun W h => (HC.out W h.2.2.2.2.2.2.2.2.2.2.2.2.2).mono fun _ _ ⟨he, hk⟩ => ⟨he, h.2.2.2.2.2.2.2.2.2.2.2.2.2.trans (Kp.of_below hk)⟩)
 have hiz : (i : Int) < (l.length : Int) := by omega
 obtain ⟨L, hL⟩ : ∃ L, l.length = L := ⟨_, rfl⟩
 rw [hL] at HKS HST HO2 HC2 hiz hn1 hv0 hcap
 generalize (Nm.cmpB u.data.toList o.data.toList).1 = r1 at *
 generalize (Nm.cmpB u.data.toList o.data.toList).2 = r2 at *
 clear hra hr hrv hxm hx hv hax hu hord hS0 HO HC hV ht hL hil hg
 go_enter Tryz.func101, Tryz.ntmps101
 go_wp2
 go_region_held3 (fun W => W.cell? ⟨c1, 0, none⟩ = some (.pointer (some ⟨V, 0, none⟩)) ∧ W.cell? ⟨V, 0, none⟩ = some (.slice (some ⟨g, o', none⟩) L c) ∧ W.cell? ⟨g, o' + i * 10, none⟩ = some (.int .i64 ax.idx) ∧ W.cell? ⟨g, o' + i * 10 + 1, none⟩ = some (.int .i64 ax.par) ∧ W.cell? ⟨g, o' + i * 10 + 2, none⟩ = some (.string ax.name) ∧ W.cell? ⟨g, o' + i * 10 + 3, none⟩ = some (.string ax.orig) ∧ W.cell? ⟨g, o' + i * 10 + 4, none⟩ = some (.string ax.sub) ∧ W.cell? ⟨g, o' + i * 10 + 5, none⟩ = some (.string ax.drv) ∧ W.cell? ⟨g, o' + i * 10 + 6, none⟩ = some (.string ax.ali) ∧ W.cell? ⟨g, o' + i * 10 + 7, none⟩ = some (.int .i64 ax.kind) ∧ W.cell? ⟨g, o' + i * 10 + 8, none⟩ = some (.int .i64 ax.num) ∧ W.cell? ⟨g, o' + i * 10 + 9, none⟩ = some (.slice vb vn vc) ∧ W.cell? ⟨c2, 0, none⟩ = some (.string o) ∧ Kp [] w W) (first | exact HST.out | assumption | exact HKS.out _ (by assumption)) (first | (go_at_call 80; refine Calls.mono (by with_reducible exact HO2.out _ (by assumption)) ?_; rintro e W ⟨rfl, hb⟩) | (go_at_call 102; refine Calls.mono (by with_reducible exact HC2.out _ (by assumption)) ?_; rintro e W ⟨rfl, hb⟩))
 all_goals
  go_wp2
  go_ret
  exact ⟨by simp, by assumption⟩
end Go.Proofs.YtldcediiobfhiaaGreatDoor.De
namespace Go.Proofs.YtldcediiobfhiaaGreatDoor.De
open Go.RowKit Go.Maps
def befB (l : List DV) (o : ByteArray) (i : Nat) : Bool := match l[i]? with
 | some x => decide (0 ≤ ordA l o x.1)
 | none => false
def hasAt (l : List DV) (o : ByteArray) (i : Nat) : Bool := match l[i]? with
 | some x => (orgB l x.1).toList == o.toList
 | none => false
/-- A place of an origin. -/
def PlaceOf (l : List DV) (o : ByteArray) (r : Nat) : Prop := r ≤ l.length ∧ (0 < r → befB l o (r - 1) = false) ∧ (r < l.length → befB l o r = true)
set_option maxRecDepth 100000 in
set_option maxHeartbeats 4000000 in
theorem place_any {w : World} {V M : Nat} {sv : Value} {l : List DV} {D : DataW Unit} (hV : View w V sv M l D) (ht : TOk l) (o : ByteArray) (ho : o.size ≤ 4611686018427387904) :
  Calls Tryz.prog 64 #[.pointer (some ⟨V, 0, none⟩), .string o] w fun e w' => ∃ r : Nat, e = .returned (.tuple #[.int .i64 r, .bool (hasAt l o r)]) ∧ PlaceOf l o r ∧ Kp [] w w' := by
 obtain ⟨a, c, rfl, hrv⟩ := hV.dev.form
 obtain ⟨W1, hW1⟩ : ∃ W1, (w.alloc (.cells #[.pointer (some ⟨V, 0, none⟩)] 64)).alloc (.cells #[.string o] 9) = W1 := ⟨_, rfl⟩
 obtain ⟨C, hC⟩ : ∃ C, w.heap.size = C := ⟨_, rfl⟩
 have hk1 : Kp [] w W1 := by rw [← hW1]; exact ((Kp.refl [] w).alloc _).alloc _
 have b1 : W1.cell? ⟨C, 0, none⟩ = some (.pointer (some ⟨V, 0, none⟩)) := by
  rw [← hW1, World.cell?_alloc_lt _ _ _ (by simp; omega), cell_of_row _ _ 0 _ _ _ (by rw [← hC]; exact heap_alloc_last w _)]; rfl
 have b2 : W1.cell? ⟨C + 1, 0, none⟩ = some (.string o) := by
  rw [← hW1, cell_of_row _ _ 0 _ _ _ (by have := heap_alloc_last (w.alloc (.cells #[.pointer (some ⟨V, 0, none⟩)] 64)) (.cells #[.string o] 9); simpa [hC] using this)]; rfl
 have hV1 := hV.below hk1.bel
 have hcell : ∀ W', Kp [] W1 W' → W'.cell? ⟨C, 0, none⟩ = some (.pointer (some ⟨V, 0, none⟩)) ∧ W'.cell? ⟨C + 1, 0, none⟩ = some (.string o) := fun W' h =>
  ⟨(h.bel.cell (World.block_lt_of_cell? _ _ b1)).trans b1, (h.bel.cell (World.block_lt_of_cell? _ _ b2)).trans b2⟩
 have hn1 := ht.n
 have HS := Lib.hid (search_any 101 #[.pointer (some ⟨C, 0, none⟩), .pointer (some ⟨C + 1, 0, none⟩)] l.length (befB l o) W1 (by omega) (enters_of Tryz.func101 (by kernel_rfl) rfl) (fun W h i hi => by
  obtain ⟨x, hx⟩ : ∃ x, l[i]? = some x := ⟨_, List.getElem?_eq_getElem hi⟩
  obtain ⟨h1, h2⟩ := hcell W h
  have := place1_any (hV1.below h.bel) ht C (C + 1) o h1 h2 ho i x hx
  unfold befB
  rw [hx]
  exact this))
 have hv0 : W1.cell? ⟨V, 0, none⟩ = some (.slice a l.length c) := by rw [cell_of_row _ _ _ _ _ _ hV1.box]; rfl
 have HV1 := Lib.hid hV1
 have HT := Lib.hid ht
 have HC := Lib.hid hcell
 have HK1 := Lib.hid hk1
 have HRv := Lib.hid hrv
 have Hv0 := Lib.hid hv0
 clear hk1 hcell hV hV1 ht ho hrv
 go_enter Tryz.func64, Tryz.ntmps64
 go_upto_region 1 with fail
 go_upto_region 2 with (go_at_call 100; refine Calls.mono (by with_reducible exact HS.out) ?_; rintro e w2 ⟨r, rfl, hp, hk⟩; have HP := Lib.hid hp; have hvr := ((hk.bel.cell (World.block_lt_of_cell? _ _ Hv0.out)).trans Hv0.out); have hc1 := (HC.out _ hk).1; have hc2 := (HC.out _ hk).2; have HK := Lib.hid hk; clear hp hk)
 clear b1 b2 hv0
 cases hx : l[r]? with
 | none =>
  have hz : hasAt l o r = false := by unfold hasAt; rw [hx]
  have HZ := Lib.hid hz
  have hnr : ¬ (r : Int) < (l.length : Int) := by
   have := List.getElem?_eq_none_iff.1 hx
   omega
  clear hx hz
  go_quiet (fail)
  go_wp2
  go_ret2
  exact ⟨r, by rw [HZ.out]; rfl, HP.out, (HK1.out.trans HK.out).drew _⟩
 | some x =>
  have hxm := List.mem_of_getElem? hx
  have hil : r < l.length := (List.getElem?_eq_some_iff.1 hx).1
  obtain ⟨g, o', rfl, hcap, hg, hr⟩ := HRv.out (fun e => by rw [e] at hx; simp at hx)
  have hkw := HK1.out.trans HK.out
  obtain ⟨vb, vn, vc, hv⟩ := (HV1.out.dev.slices) x hxm
  have hra := (hr.below hg hkw.bel).at_ r x hx
  have hz : hasAt l o r = ((orgB l x.1).toList == o.toList) := by unfold hasAt; rw [hx]
  have HO := Lib.hid fun W (h : Kp [] w2 W) => origin80_val ((HV1.out.below HK.out.bel).below h.bel) x.1 vb vn vc HT.out (HT.out.o x hxm) (HT.out.wp x hxm)
  rw [hv] at hra
  obtain ⟨ax, hax⟩ : ∃ a, x.1 = a := ⟨_, rfl⟩
  rw [hax] at hra HO hz
  unfold dvC at hra
  obtain ⟨u, hu⟩ : ∃ u, orgB l ax = u := ⟨_, rfl⟩
  rw [hu] at HO hz
  have HZ := Lib.hid hz
  have hS0 : (fun W : World => W.cell? ⟨C, 0, none⟩ = some (.pointer (some ⟨V, 0, none⟩)) ∧ W.cell? ⟨V, 0, none⟩ = some (.slice (some ⟨g, o', none⟩) l.length c) ∧ W.cell? ⟨g, o' + r * 10, none⟩ = some (.int .i64 ax.idx) ∧ W.cell? ⟨g, o' + r * 10 + 1, none⟩ = some (.int .i64 ax.par) ∧ W.cell? ⟨g, o' + r * 10 + 2, none⟩ = some (.string ax.name) ∧ W.cell? ⟨g, o' + r * 10 + 3, none⟩ = some (.string ax.orig) ∧ W.cell? ⟨g, o' + r * 10 + 4, none⟩ = some (.string ax.sub) ∧ W.cell? ⟨g, o' + r * 10 + 5, none⟩ = some (.string ax.drv) ∧ W.cell? ⟨g, o' + r * 10 + 6, none⟩ = some (.string ax.ali) ∧ W.cell? ⟨g, o' + r * 10 + 7, none⟩ = some (.int .i64 ax.kind) ∧ W.cell? ⟨g, o' + r * 10 + 8, none⟩ = some (.int .i64 ax.num) ∧ W.cell? ⟨g, o' + r * 10 + 9, none⟩ = some (.slice vb vn vc) ∧ W.cell? ⟨C + 1, 0, none⟩ = some (.string o) ∧ Kp [] w2 W) w2 := ⟨hc1, hvr, hra 0 _ rfl, hra 1 _ rfl, hra 2 _ rfl, hra 3 _ rfl, hra 4 _ rfl, hra 5 _ rfl, hra 6 _ rfl, hra 7 _ rfl, hra 8 _ rfl, hra 9 _ rfl, hc2, Kp.refl [] w2⟩
  have HKS := Lib.hid (show ∀ W', Kp [] w2 W' → (fun W : World => W.cell? ⟨C, 0, none⟩ = some (.pointer (some ⟨V, 0, none⟩)) ∧ W.cell? ⟨V, 0, none⟩ = some (.slice (some ⟨g, o', none⟩) l.length c) ∧ W.cell? ⟨g, o' + r * 10, none⟩ = some (.int .i64 ax.idx) ∧ W.cell? ⟨g, o' + r * 10 + 1, none⟩ = some (.int .i64 ax.par) ∧ W.cell? ⟨g, o' + r * 10 + 2, none⟩ = some (.string ax.name) ∧ W.cell? ⟨g, o' + r * 10 + 3, none⟩ = some (.string ax.orig) ∧ W.cell? ⟨g, o' + r * 10 + 4, none⟩ = some (.string ax.sub) ∧ W.cell? ⟨g, o' + r * 10 + 5, none⟩ = some (.string ax.drv) ∧ W.cell? ⟨g, o' + r * 10 + 6, none⟩ = some (.string ax.ali) ∧ W.cell? ⟨g, o' + r * 10 + 7, none⟩ = some (.int .i64 ax.kind) ∧ W.cell? ⟨g, o' + r * 10 + 8, none⟩ = some (.int .i64 ax.num) ∧ W.cell? ⟨g, o' + r * 10 + 9, none⟩ = some (.slice vb vn vc) ∧ W.cell? ⟨C + 1, 0, none⟩ = some (.string o) ∧ Kp [] w2 W) W' from fun W' h => by
   have hc : ∀ {q : Addr} {z : Value}, w2.cell? q = some z → W'.cell? q = some z := fun {q z} e => (h.bel.cell (World.block_lt_of_cell? w2 _ e)).trans e
   obtain ⟨e0, e1, e2, e3, e4, e5, e6, e7, e8, e9, e10, e11, e12, _⟩ := hS0
   exact ⟨hc e0, hc e1, hc e2, hc e3, hc e4, hc e5, hc e6, hc e7, hc e8, hc e9, hc e10, hc e11, hc e12, h⟩)
  have HST := Lib.hid (HKS.out _ ((Kp.refl [] w2).drew 1))
  have HO2 := Lib.hid (show ∀ W, (W.cell? ⟨C, 0, none⟩ = some (.pointer (some ⟨V, 0, none⟩)) ∧ W.cell? ⟨V, 0, none⟩ = some (.slice (some ⟨g, o', none⟩) l.length c) ∧ W.cell? ⟨g, o' + r * 10, none⟩ = some (.int .i64 ax.idx) ∧ W.cell? ⟨g, o' + r * 10 + 1, none⟩ = some (.int .i64 ax.par) ∧ W.cell? ⟨g, o' + r * 10 + 2, none⟩ = some (.string ax.name) ∧ W.cell? ⟨g, o' + r * 10 + 3, none⟩ = some (.string ax.orig) ∧ W.cell? ⟨g, o' + r * 10 + 4, none⟩ = some (.string ax.sub) ∧ W.cell? ⟨g, o' + r * 10 + 5, none⟩ = some (.string ax.drv) ∧ W.cell? ⟨g, o' + r * 10 + 6, none⟩ = some (.string ax.ali) ∧ W.cell? ⟨g, o' + r * 10 + 7, none⟩ = some (.int .i64 ax.kind) ∧ W.cell? ⟨g, o' + r * 10 + 8, none⟩ = some (.int .i64 ax.num) ∧ W.cell? ⟨g, o' + r * 10 + 9, none⟩ = some (.slice vb vn vc) ∧ W.cell? ⟨C + 1, 0, none⟩ = some (.string o) ∧ Kp [] w2 W) → Calls Tryz.prog 80 #[.pointer (some ⟨V, 0, none⟩), .agg #[.int .i64 ax.idx, .int .i64 ax.par, .string ax.name, .string ax.orig, .string ax.sub, .string ax.drv, .string ax.ali, .int .i64 ax.kind, .int .i64 ax.num, .slice vb vn vc]] W fun e w' => e = .returned (.string u) ∧ Kp [] w2 w' from fun W h => (HO.out W h.2.2.2.2.2.2.2.2.2.2.2.2.2).mono fun _ _ ⟨he, hk⟩ => ⟨he, h.2.2.2.2.2.2.2.2.2.2.2.2.2.trans hk⟩)
  have hiz : (r : Int) < (l.length : Int) := by omega
  obtain ⟨L, hL⟩ : ∃ L, l.length = L := ⟨_, rfl⟩
  rw [hL] at HKS HST HO2 hiz hn1 hvr hcap
  have HKW := Lib.hid hkw
  clear hra hr hxm hx hv hax hu hz hS0 HO hL hil hg hkw hc1 hc2 hvr
  go_region_held3 (fun W => W.cell? ⟨C, 0, none⟩ = some (.pointer (some ⟨V, 0, none⟩)) ∧ W.cell? ⟨V, 0, none⟩ = some (.slice (some ⟨g, o', none⟩) L c) ∧ W.cell? ⟨g, o' + r * 10, none⟩ = some (.int .i64 ax.idx) ∧ W.cell? ⟨g, o' + r * 10 + 1, none⟩ = some (.int .i64 ax.par) ∧ W.cell? ⟨g, o' + r * 10 + 2, none⟩ = some (.string ax.name) ∧ W.cell? ⟨g, o' + r * 10 + 3, none⟩ = some (.string ax.orig) ∧ W.cell? ⟨g, o' + r * 10 + 4, none⟩ = some (.string ax.sub) ∧ W.cell? ⟨g, o' + r * 10 + 5, none⟩ = some (.string ax.drv) ∧ W.cell? ⟨g, o' + r * 10 + 6, none⟩ = some (.string ax.ali) ∧ W.cell? ⟨g, o' + r * 10 + 7, none⟩ = some (.int .i64 ax.kind) ∧ W.cell? ⟨g, o' + r * 10 + 8, none⟩ = some (.int .i64 ax.num) ∧ W.cell? ⟨g, o' + r * 10 + 9, none⟩ = some (.slice vb vn vc) ∧ W.cell? ⟨C + 1, 0, none⟩ = some (.string o) ∧ Kp [] w2 W) (first | exact HST.out | assumption | exact HKS.out _ (by assumption)) (first | (go_at_call 80; refine Calls.mono (by with_reducible exact HO2.out _ (by assumption)) ?_; rintro e W ⟨rfl, hb⟩))
  all_goals
   go_wp2
   go_ret2
   exact ⟨r, by rw [HZ.out]; rfl, HP.out, HKW.out.trans (by assumption)⟩
end Go.Proofs.YtldcediiobfhiaaGreatDoor.De
