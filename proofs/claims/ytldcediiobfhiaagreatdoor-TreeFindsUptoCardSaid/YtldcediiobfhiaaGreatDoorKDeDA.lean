/- Rows of devices in memory. -/
import Derived.Test.YtldcediiobfhiaaGreatDoorKDeH
import Derived.Test.YtldcediiobfhiaaGreatDoorKTu
import Derived.Deep.MidRow
namespace Go.Proofs.YtldcediiobfhiaaGreatDoor.De
open Go.RowKit
/-- A device whose attributes lie behind a slice. -/
def devOf (a : ADev) (v : Value) : Dev := ⟨a.idx, a.par, a.name, a.orig, a.sub, a.drv, a.ali, a.kind, a.num, v⟩
def dvC (a : ADev) (v : Value) : List Value := [.int .i64 a.idx, .int .i64 a.par, .string a.name, .string a.orig, .string a.sub, .string a.drv, .string a.ali, .int .i64 a.kind, .int .i64 a.num, v]
theorem dvC_len (a : ADev) (v : Value) : (dvC a v).length = 10 := rfl
theorem dvC_one {a : ADev} {v : Value} (h : v.oneCell' = true) : ∀ u ∈ dvC a v, u.oneCell' = true := fun u hu => by
 simp only [dvC, List.mem_cons, List.not_mem_nil, or_false] at hu
 rcases hu with rfl | rfl | rfl | rfl | rfl | rfl | rfl | rfl | rfl | rfl
 all_goals first | rfl | exact h
theorem Has.one {W : World} {v : Value} {l : List Atr} (h : Has W v l) : v.oneCell' = true := by
 rcases h with ⟨a, c, rfl, _⟩ | ⟨b, o, c, rfl, _⟩ <;> rfl
/-- Devices and the slices of their attributes. -/
abbrev DV := ADev × Value
def dvsC (l : List DV) : List Value := l.flatMap fun x => dvC x.1 x.2
theorem dvsC_len (l : List DV) : (dvsC l).length = l.length * 10 := by
 induction l with
 | nil => rfl
 | cons x l ih =>
  unfold dvsC at ih ⊢
  rw [List.flatMap_cons, List.length_append, ih, dvC_len, List.length_cons]
  omega
theorem dvsC_append (a b : List DV) : dvsC (a ++ b) = dvsC a ++ dvsC b := List.flatMap_append
theorem dvsC_get : ∀ (l : List DV) (j : Nat) (x : DV) (m : Nat), l[j]? = some x → m < 10 → (dvsC l)[j * 10 + m]? = (dvC x.1 x.2)[m]?
 | [], j, x, m, h, _ => by simp at h
 | y :: l, 0, x, m, h, hm => by
  simp only [List.getElem?_cons_zero, Option.some.injEq] at h
  subst h
  have e : dvsC (y :: l) = dvC y.1 y.2 ++ dvsC l := rfl
  rw [e, List.getElem?_append_left (by rw [dvC_len]; omega), Nat.zero_mul, Nat.zero_add]
 | y :: l, j + 1, x, m, h, hm => by
  have := dvsC_get l j x m (by simpa using h) hm
  have e : dvsC (y :: l) = dvC y.1 y.2 ++ dvsC l := rfl
  rw [e, List.getElem?_append_right (by rw [dvC_len]; omega), dvC_len, show (j + 1) * 10 + m - 10 = j * 10 + m by omega]
  exact this
/-- The devices lie in block g from cell o on. -/
structure DRow (W : World) (g o : Nat) (l : List DV) : Prop where
 at_ : ∀ (j : Nat) x, l[j]? = some x → W.rangeAt g (o + j * 10) (dvC x.1 x.2)
 ats : ∀ x ∈ l, Has W x.2 x.1.ats
theorem DRow.keep {W W' : World} {g o : Nat} {l : List DV} (h : DRow W g o l) (hb : W'.heap[g]? = W.heap[g]?) (ha : ∀ x ∈ l, Has W' x.2 x.1.ats) : DRow W' g o l :=
 ⟨fun j x hx m v hv => by
  have := h.at_ j x hx m v hv
  simp only [World.cell?, hb] at this ⊢
  exact this, ha⟩
theorem DRow.below {W W' : World} {g o : Nat} {l : List DV} (h : DRow W g o l) (hg : g < W.heap.size) (hb : Below W.heap.size W W') : DRow W' g o l :=
 h.keep (hb.block g hg) fun x hx => (h.ats x hx).below hb
/-- The slice v holds these devices. -/
def DHas (W : World) (v : Value) (l : List DV) : Prop := (∃ a c, v = .slice a 0 c ∧ l = []) ∨ ∃ g o c, v = .slice (some ⟨g, o, none⟩) l.length c ∧ l.length ≤ c ∧ g < W.heap.size ∧ DRow W g o l
theorem DHas.below {W W' : World} {v : Value} {l : List DV} (h : DHas W v l) (hb : Below W.heap.size W W') : DHas W' v l := by
 rcases h with h | ⟨g, o, c, hv, hc, hg, hr⟩
 ·exact Or.inl h
 ·exact Or.inr ⟨g, o, c, hv, hc, Nat.lt_of_lt_of_le hg hb.size, hr.below hg hb⟩
theorem DHas.form {W : World} {v : Value} {l : List DV} (h : DHas W v l) : ∃ a c, v = .slice a l.length c ∧ (l ≠ [] → ∃ g o, a = some ⟨g, o, none⟩ ∧ l.length ≤ c ∧ g < W.heap.size ∧ DRow W g o l) := by
 rcases h with ⟨a, c, rfl, rfl⟩ | ⟨g, o, c, rfl, hc, hg, hr⟩
 ·exact ⟨a, c, rfl, fun h => absurd rfl h⟩
 ·exact ⟨some ⟨g, o, none⟩, c, rfl, fun _ => ⟨g, o, rfl, hc, hg, hr⟩⟩
/-- A row of devices of the call's own. -/
structure DOwn (W : World) (B : Nat) (v : Value) (l : List DV) : Prop where
 row : W.ownsRow B 34 10 v l.length (dvsC l)
 ats : ∀ x ∈ l, Has W x.2 x.1.ats
theorem DOwn.has {W : World} {B : Nat} {v : Value} {l : List DV} (h : DOwn W B v l) : DHas W v l := by
 rcases h.row.2 with ⟨hv, h0⟩ | ⟨g, cap, cur, hv, _, hg, hc, _, _, ht⟩
 ·exact Or.inl ⟨none, 0, by rw [hv], List.length_eq_zero_iff.1 h0⟩
 ·refine Or.inr ⟨g, 0, cap, hv, hc, (Array.getElem?_eq_some_iff.1 hg).1, ⟨fun j x hx m u hu => ?_, h.ats⟩⟩
  have hj := (List.getElem?_eq_some_iff.1 hx).1
  have hm : m < 10 := by
   have := (List.getElem?_eq_some_iff.1 hu).1
   rwa [dvC_len] at this
  have h1 : (dvsC l)[j * 10 + m]? = some u := by rw [dvsC_get l j x m hx hm]; exact hu
  rw [← ht, List.getElem?_take, if_pos (by omega)] at h1
  rw [cell_of_row W g _ cur _ _ hg, Nat.zero_add]
  simpa using h1
theorem DOwn.nil (W : World) (B : Nat) : DOwn W B (.slice none 0 0) [] := ⟨World.ownsRow_nil _ _ _ _, fun _ h => (by cases h)⟩
end Go.Proofs.YtldcediiobfhiaaGreatDoor.De
