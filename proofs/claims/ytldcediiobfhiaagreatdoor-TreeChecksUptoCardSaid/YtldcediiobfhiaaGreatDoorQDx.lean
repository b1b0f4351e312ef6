/- Copies of attributes. A device; Get of both. Rows of devices in memory. Copies of attributes and of devices; what the program looks up devices by. -/
import Derived.Test.YtldcediiobfhiaaGreatDoorQDb
import Derived.Test.YtldcediiobfhiaaGreatDoorQSh
import Derived.Test.YtldcediiobfhiaaGreatDoorQTu
import Derived.Deep.MidRow
import Derived.Deep.QuietTactic
import Derived.BigQuiet
namespace Go.Proofs.YtldcediiobfhiaaGreatDoor.De
open Go.RowKit
def Bel (v : Value) (w : World) (e : Ending) (w' : World) : Prop := e = .returned v ∧ Below w.heap.size w w'
set_option maxHeartbeats 1000000 in
set_option maxRecDepth 100000 in
theorem clone_any (sv : Value) (l : List Atr) (w : World) (hl : l.length ≤ 1000000) (h : Has w sv l) :
  Calls Tryz.prog 103 #[sv] w fun e w' => ∃ u, e = .returned u ∧ Owns w' w.heap.size u l ∧ Below w.heap.size w w' := by
 obtain ⟨i0, hi0, hz0, hz1, hz2⟩ := info_parts info55
 have q22 : ∀ (w : World) (a : Option Addr) (n c n' c' : Nat), (binOp .eql 32 (.slice a n c) (.slice none n' c')).run Tryz.prog w = .ok (.bool a.isNone) w := fun w a n c n' c' => Lib.run_eql_slice_nil w _ _ a n c n' c' Tryz.underlying32
 have hfin : ∀ w1, (w.alloc (.cells #[] 99)).grownBy w1 (some w.heap.size) → Below w.heap.size w w1 := fun w1 hg => ((Below.refl _ w).alloc (Nat.le_refl _) _).grown hg (by simp) fun k hk => by cases hk; exact Nat.le_refl _
 have HF := Lib.hid hfin
 clear hfin
 rcases h with ⟨ad, c, rfl, rfl⟩ | ⟨b, o, c, rfl, hb, hrow⟩
 ·cases ad with
  | none =>
   clear hi0 hz0 hz1 hz2
   go_enter Tryz.func103, Tryz.ntmps103
   go_wp2
   go_ret
   exact ⟨_, rfl, Owns.nil _ _, Below.refl _ _⟩
  | some ad =>
   go_enter Tryz.func103, Tryz.ntmps103
   go_wp2_with (at_builtin; refine wpList_append_own _ rfl _ _ 32 rfl w.heap.size 99 i0 _ 2 32 Tryz.underlying32 hi0 hz0 hz1 hz2 rfl (by decide) _ _ _ rfl (World.ownsRow_made w #[] 0 (Nat.le_refl _) (Nat.zero_le _) (by simp)) ad 0 c [] rfl rfl (fun j u hj => by simp at hj) (by simp) (by unfold maxLen; omega) (by omega) (by first | (simp; done) | (simp; omega)) ?_; intro v1 w1 hown1 hgrow1 _; have Hown1 := Lib.hid hown1; have Hgrow1 := Lib.hid hgrow1; clear hown1 hgrow1)
   go_ret
   exact ⟨_, rfl, Hown1.out, HF.out _ Hgrow1.out⟩
 ·obtain ⟨N, hN⟩ : ∃ N, l.length = N := ⟨_, rfl⟩
  have hlc := cellsP_len l
  have hcs : ∀ j u, (cellsP l)[j]? = some u → w.cell? ((⟨b, o, none⟩ : Addr).add j) = some u := fun j u hj => by
   have hadd : (⟨b, o, none⟩ : Addr).add j = ⟨b, o + j, none⟩ := by unfold Addr.add; split <;> simp_all
   rw [hadd]
   have hjl : j < l.length * 2 := by rw [← hlc]; exact (List.getElem?_eq_some_iff.1 hj).1
   obtain ⟨x, hx⟩ : ∃ x, l[j / 2]? = some x := ⟨_, List.getElem?_eq_getElem (by omega)⟩
   have h1 := cellsP_get l _ x hx
   have h2 := hrow _ x hx
   rcases Nat.mod_two_eq_zero_or_one j with hm | hm
   ·rw [show j / 2 * 2 = j by omega] at h1 h2
    rw [hj] at h1
    rw [h2.1, h1.1]
   ·rw [show j / 2 * 2 + 1 = j by omega] at h1
    rw [show o + j / 2 * 2 + 1 = o + j by omega] at h2
    rw [hj] at h1
    rw [h2.2, h1.2]
  have HC := Lib.hid (fun j u hj => ((Below.refl _ w).alloc (Nat.le_refl _) (.cells #[] 99)).cell (p := (⟨b, o, none⟩ : Addr).add j) (show ((⟨b, o, none⟩ : Addr).add j).block < w.heap.size by unfold Addr.add; split <;> exact hb) |>.trans (hcs j u hj))
  have HO := Lib.hid (cellsP_one l)
  unfold Owns
  rw [hN] at hlc hl ⊢
  clear hcs hrow hN
  go_enter Tryz.func103, Tryz.ntmps103
  go_wp2_with (at_builtin; refine wpList_append_own _ rfl _ _ 32 rfl w.heap.size 99 i0 _ 2 32 Tryz.underlying32 hi0 hz0 hz1 hz2 rfl (by decide) _ _ _ rfl (World.ownsRow_made w #[] 0 (Nat.le_refl _) (Nat.zero_le _) (by simp)) ⟨b, o, none⟩ N c (cellsP l) rfl hlc HC.out HO.out (by unfold maxLen; omega) (by omega) (by first | (simp; done) | (simp; omega)) ?_; intro v1 w1 hown1 hgrow1 _; have Hown1 := Lib.hid hown1; have Hgrow1 := Lib.hid hgrow1; clear hown1 hgrow1)
  go_ret
  refine ⟨_, rfl, ?_, HF.out _ Hgrow1.out⟩
  have := Hown1.out
  rw [Nat.zero_add, List.nil_append] at this
  exact this
end Go.Proofs.YtldcediiobfhiaaGreatDoor.De
namespace Go.Proofs.YtldcediiobfhiaaGreatDoor.De
open Go.RowKit
theorem drawn_below {a w : World} {B : Nat} (h : Below B a w) (n : Nat) : Below B a (w.drewN n) := ⟨h.os, h.tape, h.output, h.size, h.block⟩
theorem Has.form {w : World} {v : Value} {l : List Atr} (h : Has w v l) : ∃ a c, v = .slice a l.length c ∧ (l ≠ [] → ∃ b o, a = some ⟨b, o, none⟩ ∧ b < w.heap.size ∧ Row w b o l) := by
 rcases h with ⟨a, c, rfl, rfl⟩ | ⟨b, o, c, rfl, hb, hr⟩
 ·exact ⟨a, c, rfl, fun h => absurd rfl h⟩
 ·exact ⟨_, c, rfl, fun _ => ⟨b, o, rfl, hb, hr⟩⟩
/-- A device. -/
structure Dev where
 idx : Int
 par : Int
 name : ByteArray
 orig : ByteArray
 sub : ByteArray
 drv : ByteArray
 ali : ByteArray
 kind : Int
 num : Int
 av : Value
def devC (d : Dev) : Array Value := #[.int .i64 d.idx, .int .i64 d.par, .string d.name, .string d.orig, .string d.sub, .string d.drv, .string d.ali, .int .i64 d.kind, .int .i64 d.num, d.av]
def devV (d : Dev) : Value := .agg (devC d)
/-- A device in a block of its own. -/
def BoxAt (W : World) (D : Nat) (c : Array Value) : Prop := W.heap[D]? = some (.cells c 34 (0, 0))
theorem BoxAt.cell {W : World} {D : Nat} {c : Array Value} (h : BoxAt W D c) (i : Nat) : W.cell? ⟨D, i, none⟩ = c[i]? := cell_of_row _ _ _ _ _ _ h
theorem BoxAt.frozen {W : World} {D : Nat} {c : Array Value} (h : BoxAt W D c) (i : Nat) : W.frozen? ⟨D, i, none⟩ = false := by
 unfold BoxAt at h
 simp [World.frozen?, h]
theorem BoxAt.set {W : World} {D : Nat} {c : Array Value} (h : BoxAt W D c) (i : Nat) (v : Value) : BoxAt (W.setCell ⟨D, i, none⟩ v) D (c.setIfInBounds i v) := by
 unfold BoxAt at h ⊢
 simp [World.setCell, Array.getElem?_modify, h]
theorem BoxAt.set_other {W : World} {D E : Nat} {c : Array Value} (h : BoxAt W D c) (hne : D ≠ E) (i : Nat) (v : Value) : BoxAt (W.setCell ⟨E, i, none⟩ v) D c := (Below.heap_setCell W ⟨E, i, none⟩ v D hne).trans h
def zeroC : Array Value := #[.int .i64 0, .int .i64 0, .string ⟨#[]⟩, .string ⟨#[]⟩, .string ⟨#[]⟩, .string ⟨#[]⟩, .string ⟨#[]⟩, .int .i64 0, .int .i64 0, .slice none 0 0]
end Go.Proofs.YtldcediiobfhiaaGreatDoor.De
namespace Go.Proofs.YtldcediiobfhiaaGreatDoor.De
open Go.RowKit
/-- A device whose attributes lie behind a slice. -/
def devOf (a : ADev) (v : Value) : Dev := ⟨a.idx, a.par, a.name, a.orig, a.sub, a.drv, a.ali, a.kind, a.num, v⟩
def dvC (a : ADev) (v : Value) : List Value := [.int .i64 a.idx, .int .i64 a.par, .string a.name, .string a.orig, .string a.sub, .string a.drv, .string a.ali, .int .i64 a.kind, .int .i64 a.num, v]
theorem dvC_len (a : ADev) (v : Value) : (dvC a v).length = 10 := rfl
theorem dvC_one {a : ADev} {v : Value} (h : v.oneCell' = true) : ∀ u ∈ dvC a v, u.oneCell' = true := fun u hu => by
 simp only [dvC, List.mem_cons, List.not_mem_nil, or_false] at hu
 rcases hu with rfl | rfl | rfl | rfl | rfl | rfl | rfl | rfl | rfl | rfl
 all_goals first | rfl | exact h
theorem Has.one {W : World} {v : Value} {l : List Atr} (h : Has W v l) : v.oneCell' = true := by
 rcases h with ⟨a, c, rfl, _⟩ | ⟨b, o, c, rfl, _⟩ <;> rfl
/-- Devices and the slices of their attributes. -/
abbrev DV := ADev × Value
def dvsC (l : List DV) : List Value := l.flatMap fun x => dvC x.1 x.2
theorem dvsC_len (l : List DV) : (dvsC l).length = l.length * 10 := by
 induction l with
 | nil => rfl
 | cons x l ih =>
  unfold dvsC at ih ⊢
  rw [List.flatMap_cons, List.length_append, ih, dvC_len, List.length_cons]
  omega
theorem dvsC_append (a b : List DV) : dvsC (a ++ b) = dvsC a ++ dvsC b := List.flatMap_append
theorem dvsC_get : ∀ (l : List DV) (j : Nat) (x : DV) (m : Nat), l[j]? = some x → m < 10 → (dvsC l)[j * 10 + m]? = (dvC x.1 x.2)[m]?
 | [], j, x, m, h, _ => by simp at h
 | y :: l, 0, x, m, h, hm => by
  simp only [List.getElem?_cons_zero, Option.some.injEq] at h
  subst h
  have e : dvsC (y :: l) = dvC y.1 y.2 ++ dvsC l := rfl
  rw [e, List.getElem?_append_left (by rw [dvC_len]; omega), Nat.zero_mul, Nat.zero_add]
 | y :: l, j + 1, x, m, h, hm => by
  have := dvsC_get l j x m (by simpa using h) hm
  have e : dvsC (y :: l) = dvC y.1 y.2 ++ dvsC l := rfl
  rw [e, List.getElem?_append_right (by rw [dvC_len]; omega), dvC_len, show (j + 1) * 10 + m - 10 = j * 10 + m by omega]
  exact this
/-- The devices lie in block g from cell o on. -/
structure DRow (W : World) (g o : Nat) (l : List DV) : Prop where
 at_ : ∀ (j : Nat) x, l[j]? = some x → W.rangeAt g (o + j * 10) (dvC x.1 x.2)
 ats : ∀ x ∈ l, Has W x.2 x.1.ats
theorem DRow.keep {W W' : World} {g o : Nat} {l : List DV} (h : DRow W g o l) (hb : W'.heap[g]? = W.heap[g]?) (ha : ∀ x ∈ l, Has W' x.2 x.1.ats) : DRow W' g o l :=
 ⟨fun j x hx m v hv => by
  have := h.at_ j x hx m v hv
  simp only [World.cell?, hb] at this ⊢
  exact this, ha⟩
theorem DRow.below {W W' : World} {g o : Nat} {l : List DV} (h : DRow W g o l) (hg : g < W.heap.size) (hb : Below W.heap.size W W') : DRow W' g o l :=
 h.keep (hb.block g hg) fun x hx => (h.ats x hx).below hb
/-- The slice v holds these devices. -/
def DHas (W : World) (v : Value) (l : List DV) : Prop := (∃ a c, v = .slice a 0 c ∧ l = []) ∨ ∃ g o c, v = .slice (some ⟨g, o, none⟩) l.length c ∧ l.length ≤ c ∧ g < W.heap.size ∧ DRow W g o l
theorem DHas.below {W W' : World} {v : Value} {l : List DV} (h : DHas W v l) (hb : Below W.heap.size W W') : DHas W' v l := by
 rcases h with h | ⟨g, o, c, hv, hc, hg, hr⟩
 ·exact Or.inl h
 ·exact Or.inr ⟨g, o, c, hv, hc, Nat.lt_of_lt_of_le hg hb.size, hr.below hg hb⟩
theorem DHas.form {W : World} {v : Value} {l : List DV} (h : DHas W v l) : ∃ a c, v = .slice a l.length c ∧ (l ≠ [] → ∃ g o, a = some ⟨g, o, none⟩ ∧ l.length ≤ c ∧ g < W.heap.size ∧ DRow W g o l) := by
 rcases h with ⟨a, c, rfl, rfl⟩ | ⟨g, o, c, rfl, hc, hg, hr⟩
 ·exact ⟨a, c, rfl, fun h => absurd rfl h⟩
 ·exact ⟨some ⟨g, o, none⟩, c, rfl, fun _ => ⟨g, o, rfl, hc, hg, hr⟩⟩
/-- A row of devices of the call's own. -/
structure DOwn (W : World) (B : Nat) (v : Value) (l : List DV) : Prop where
 row : W.ownsRow B 34 10 v l.length (dvsC l)
 ats : ∀ x ∈ l, Has W x.2 x.1.ats
theorem DOwn.has {W : World} {B : Nat} {v : Value} {l : List DV} (h : DOwn W B v l) : DHas W v l := by
 rcases h.row.2 with ⟨hv, h0⟩ | ⟨g, cap, cur, hv, _, hg, hc, _, _, ht⟩
 ·exact Or.inl ⟨none, 0, by rw [hv], List.length_eq_zero_iff.1 h0⟩
 ·refine Or.inr ⟨g, 0, cap, hv, hc, (Array.getElem?_eq_some_iff.1 hg).1, ⟨fun j x hx m u hu => ?_, h.ats⟩⟩
  have hj := (List.getElem?_eq_some_iff.1 hx).1
  have hm : m < 10 := by
   have := (List.getElem?_eq_some_iff.1 hu).1
   rwa [dvC_len] at this
  have h1 : (dvsC l)[j * 10 + m]? = some u := by rw [dvsC_get l j x m hx hm]; exact hu
  rw [← ht, List.getElem?_take, if_pos (by omega)] at h1
  rw [cell_of_row W g _ cur _ _ hg, Nat.zero_add]
  simpa using h1
theorem DOwn.nil (W : World) (B : Nat) : DOwn W B (.slice none 0 0) [] := ⟨World.ownsRow_nil _ _ _ _, fun _ h => (by cases h)⟩
end Go.Proofs.YtldcediiobfhiaaGreatDoor.De
namespace Go.Proofs.YtldcediiobfhiaaGreatDoor.De
open Go.RowKit
theorem info34 : (Tryz.prog.info? 34).map (fun i => (i.zero, i.size, i.bytes)) = some (some (.agg zeroC), 10, 136) := by kernel_rfl
theorem dvsC_one {W : World} {l : List DV} (h : ∀ x ∈ l, Has W x.2 x.1.ats) : ∀ u ∈ dvsC l, u.oneCell' = true := fun u hu => by
 obtain ⟨x, hx, hu⟩ := List.mem_flatMap.1 hu
 exact dvC_one (h x hx).one u hu
theorem DRow.cells {W : World} {g o : Nat} {l : List DV} (h : DRow W g o l) : ∀ (j : Nat) u, (dvsC l)[j]? = some u → W.cell? ((⟨g, o, none⟩ : Addr).add j) = some u := fun j u hu => by
 rw [Addr.add_mid]
 have hj : j < l.length * 10 := by
  rw [← dvsC_len]
  exact (List.getElem?_eq_some_iff.1 hu).1
 obtain ⟨x, hx⟩ : ∃ x, l[j / 10]? = some x := ⟨_, List.getElem?_eq_getElem (by omega)⟩
 have h1 := dvsC_get l (j / 10) x (j % 10) hx (by omega)
 rw [show j / 10 * 10 + j % 10 = j by omega, hu] at h1
 have h2 := h.at_ (j / 10) x hx (j % 10) u h1.symm
 rw [show o + j / 10 * 10 + j % 10 = o + j by omega] at h2
 exact h2
set_option maxHeartbeats 1000000 in
set_option maxRecDepth 100000 in
theorem indexOf_any (d : Dev) (w : World) : Calls Tryz.prog 62 #[devV d] w (Bel (.tuple #[.int .i64 d.idx, .bool true]) w) := by
 obtain ⟨idx, par, name, orig, sub, drv, ali, kind, num, av⟩ := d
 unfold devV devC
 simp only
 go_enter Tryz.func62, Tryz.ntmps62
 go_wp2
 go_ret2
 exact ⟨rfl, (Below.refl _ w).alloc (Nat.le_refl _) _⟩
theorem info34b : (Tryz.prog.info? 34).map (·.size) = some 10 := by kernel_rfl
set_option maxHeartbeats 1000000 in
set_option maxRecDepth 100000 in
theorem cloneDev_any (a : ADev) (v : Value) (w : World) (hl : a.ats.length ≤ 1000000) (h : Has w v a.ats) : Calls Tryz.prog 65 #[devV (devOf a v)] w fun e w' => ∃ u, e = .returned (devV (devOf a u)) ∧ Owns w' w.heap.size u a.ats ∧ Below w.heap.size w w' := by
 have hv : devV (devOf a v) = .agg #[.int .i64 a.idx, .int .i64 a.par, .string a.name, .string a.orig, .string a.sub, .string a.drv, .string a.ali, .int .i64 a.kind, .int .i64 a.num, v] := rfl
 rw [hv]
 clear hv
 have HV := Lib.hid h.one
 obtain ⟨E, hE⟩ : ∃ E, w.heap.size = E := ⟨_, rfl⟩
 have hE1 : (w.alloc (.cells #[.int .i64 a.idx, .int .i64 a.par, .string a.name, .string a.orig, .string a.sub, .string a.drv, .string a.ali, .int .i64 a.kind, .int .i64 a.num, v] 34)).heap.size = E + 1 := by rw [World.size_alloc, hE]
 have h0 := heap_alloc2_old w (.cells #[.int .i64 a.idx, .int .i64 a.par, .string a.name, .string a.orig, .string a.sub, .string a.drv, .string a.ali, .int .i64 a.kind, .int .i64 a.num, v] 34) (.cells zeroC 34)
 have h1 := heap_alloc2_new w (.cells #[.int .i64 a.idx, .int .i64 a.par, .string a.name, .string a.orig, .string a.sub, .string a.drv, .string a.ali, .int .i64 a.kind, .int .i64 a.num, v] 34) (.cells zeroC 34)
 rw [hE] at h0
 rw [hE] at h1
 have hb : Below w.heap.size w ((w.alloc (.cells #[.int .i64 a.idx, .int .i64 a.par, .string a.name, .string a.orig, .string a.sub, .string a.drv, .string a.ali, .int .i64 a.kind, .int .i64 a.num, v] 34)).alloc (.cells zeroC 34)) := ((Below.refl _ w).alloc (Nat.le_refl _) _).alloc (by rw [World.size_alloc]; omega) _
 have c9 := cell_of_row _ E 9 _ _ _ h0
 simp only [List.getElem?_toArray, List.getElem?_cons_zero, List.getElem?_cons_succ] at c9
 have HC := Lib.hid (clone_any v a.ats _ hl (h.below hb))
 have H0 := Lib.hid h0
 have H1 := Lib.hid h1
 have Hb := Lib.hid hb
 clear h0 h1 hb h
 go_enter Tryz.func65, Tryz.ntmps65
 go_wp2_with fail
 refine HC.out.mono ?_
 rintro e W1 ⟨u, rfl, hown, hbl⟩
 obtain ⟨ua, un, uc, hue⟩ : ∃ a n c, u = .slice a n c := by
  rcases hown.form with ⟨h, _⟩ | ⟨g, cap, h, _⟩
  ·exact ⟨_, _, _, h⟩
  ·exact ⟨_, _, _, h⟩
 subst hue
 have hsz : ((w.alloc (.cells #[.int .i64 a.idx, .int .i64 a.par, .string a.name, .string a.orig, .string a.sub, .string a.drv, .string a.ali, .int .i64 a.kind, .int .i64 a.num, v] 34)).alloc (.cells zeroC 34)).heap.size = E + 2 := by rw [World.size_alloc, hE1]
 rw [hsz] at hown hbl
 have hu := hown.has.one
 have hB1 : BoxAt W1 E #[.int .i64 a.idx, .int .i64 a.par, .string a.name, .string a.orig, .string a.sub, .string a.drv, .string a.ali, .int .i64 a.kind, .int .i64 a.num, v] := (hbl.block E (by omega)).trans H0.out
 have hR1 : BoxAt W1 (E + 1) zeroC := (hbl.block (E + 1) (by omega)).trans H1.out
 have c9' := hB1.cell 9
 have f9 := hB1.frozen 9
 simp only [List.getElem?_toArray, List.getElem?_cons_zero, List.getElem?_cons_succ] at c9'
 have HB := Lib.hid (show (W1.setCell ⟨E, 9, none⟩ (.slice ua un uc)).heap[E]? = some (.cells #[.int .i64 a.idx, .int .i64 a.par, .string a.name, .string a.orig, .string a.sub, .string a.drv, .string a.ali, .int .i64 a.kind, .int .i64 a.num, (.slice ua un uc)] 34 (0, 0)) from hB1.set 9 (.slice ua un uc))
 have HR := Lib.hid (show (W1.setCell ⟨E, 9, none⟩ (.slice ua un uc)).heap[E + 1]? = some (.cells zeroC 34 (0, 0)) from hR1.set_other (by omega) 9 (.slice ua un uc))
 have hold : ∀ b, E + 2 ≤ b → ((W1.setCell ⟨E, 9, none⟩ (.slice ua un uc)).setRow (E + 1) #[.int .i64 a.idx, .int .i64 a.par, .string a.name, .string a.orig, .string a.sub, .string a.drv, .string a.ali, .int .i64 a.kind, .int .i64 a.num, (.slice ua un uc)]).heap[b]? = W1.heap[b]? := fun b hb => by
  rw [show ((W1.setCell ⟨E, 9, none⟩ (.slice ua un uc)).setRow (E + 1) #[.int .i64 a.idx, .int .i64 a.par, .string a.name, .string a.orig, .string a.sub, .string a.drv, .string a.ali, .int .i64 a.kind, .int .i64 a.num, (.slice ua un uc)]).heap[b]? = (W1.setCell ⟨E, 9, none⟩ (.slice ua un uc)).heap[b]? from setRow_other _ _ _ _ (by omega)]
  exact Below.heap_setCell W1 ⟨E, 9, none⟩ (.slice ua un uc) b (by show b ≠ E; omega)
 have Hown := Lib.hid (show Owns ((W1.setCell ⟨E, 9, none⟩ (.slice ua un uc)).setRow (E + 1) #[.int .i64 a.idx, .int .i64 a.par, .string a.name, .string a.orig, .string a.sub, .string a.drv, .string a.ali, .int .i64 a.kind, .int .i64 a.num, (.slice ua un uc)]) w.heap.size (.slice ua un uc) a.ats from (hown.keep fun b _ hb => hold b ((show W1.ownsRow (E + 2) 99 2 (.slice ua un uc) a.ats.length (cellsP a.ats) from hown).lt b hb).1).mono (by omega))
 have Hbl := Lib.hid (show Below w.heap.size w ((W1.setCell ⟨E, 9, none⟩ (.slice ua un uc)).setRow (E + 1) #[.int .i64 a.idx, .int .i64 a.par, .string a.name, .string a.orig, .string a.sub, .string a.drv, .string a.ali, .int .i64 a.kind, .int .i64 a.num, (.slice ua un uc)]) from below_setRow ((Hb.out.trans (hbl.mono (by omega))).setCell (show w.heap.size ≤ E by omega) (.slice ua un uc)) (by omega) #[.int .i64 a.idx, .int .i64 a.par, .string a.name, .string a.orig, .string a.sub, .string a.drv, .string a.ali, .int .i64 a.kind, .int .i64 a.num, (.slice ua un uc)])
 have Hu := Lib.hid hu
 clear hown hbl hu hB1 hR1 hold hsz
 go_wp2_with (first
  | (refine wpList_load_row rfl 34 _ rfl E rfl 34 #[.int .i64 a.idx, .int .i64 a.par, .string a.name, .string a.orig, .string a.sub, .string a.drv, .string a.ali, .int .i64 a.kind, .int .i64 a.num, (.slice ua un uc)] (0, 0) _ HB.out Tryz.underlying34 rfl info34b ?_)
  | (refine wpList_store_row rfl 34 _ _ rfl (E + 1) #[.int .i64 a.idx, .int .i64 a.par, .string a.name, .string a.orig, .string a.sub, .string a.drv, .string a.ali, .int .i64 a.kind, .int .i64 a.num, (.slice ua un uc)] rfl rfl 34 zeroC HR.out info34b rfl (by simp [Value.oneCell']) ?_))
 exact bodyPost_ret (v := .agg #[.int .i64 a.idx, .int .i64 a.par, .string a.name, .string a.orig, .string a.sub, .string a.drv, .string a.ali, .int .i64 a.kind, .int .i64 a.num, (.slice ua un uc)]) (results_cell_row rfl _ _ (E + 1) 34 #[.int .i64 a.idx, .int .i64 a.par, .string a.name, .string a.orig, .string a.sub, .string a.drv, .string a.ali, .int .i64 a.kind, .int .i64 a.num, (.slice ua un uc)] _ _ rfl (setRow_heap _ _ _ _ _ _ HR.out) Tryz.underlying34 rfl info34b) rfl ⟨(.slice ua un uc), rfl, Hown.out, Hbl.out⟩
end Go.Proofs.YtldcediiobfhiaaGreatDoor.De
