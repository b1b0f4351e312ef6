/- Copies of events; what is received, on lists. -/
import Derived.Test.YtikjbhjdpamceaaB
import Derived.Laws.IdiomCopy
namespace Go.Proofs.Ytikjbhjdpamceaa
open Go.RowKit

theorem sizeE : (Try.prog.info? 42).map (·.size) = some 5 := by kernel_rfl

/-- A copy of events within memory. -/
theorem run_copy_ev (w : World) (ty : TypeId) (g p dLen dCap : Nat) (a : Addr) (sLen sCap m : Nat) (cur evs : List Ev)
    (hg : w.heap[g]? = some (.cells (evsC cur).toArray 42 (0, 0))) (hn : m = Nat.min sLen dLen) (hl : evs.length = m)
    (hsrc : ∀ j v, (evsC evs)[j]? = some v → w.cell? (a.add j) = some v) (hfit : p + m ≤ cur.length) :
    (Builtin.copy_ #[23, 23] ty #[.slice (some ⟨g, p * 5, none⟩) dLen dCap, .slice (some a) sLen sCap]).run Try.prog w =
      .ok (goInt m) (w.setRow g (evsC (cur.take p ++ evs ++ cur.drop (p + m))).toArray) := by
  have hl' := run_firstCells_some (P := Try.prog) w 5 m a sLen sCap (evsC evs) (by rw [evsC_len, hl]) hsrc
  have hst := run_storeCells_at Try.prog g (p * 5) 42 (evsC evs) 0 _ w hg (by simp [evsC_len, hl]; omega) (evsC_one _)
  simp only [Nat.add_zero, evsC_len, hl] at hst
  rw [evsC_take, show p * 5 + m * 5 = (p + m) * 5 by omega, evsC_drop, ← evsC_append, ← evsC_append] at hst
  obtain ⟨i, hq, hi⟩ := Option.map_eq_some_iff.1 sizeE
  simp [Builtin.copy_, run_underlying Try.underlying23, Builtin.lenOf, sizeOf, typeInfo, hq, hi, ← hn, hl', hst]

/-- The cells of a part of a row. -/
theorem src_ev {w : World} {rb : Nat} {ring : List Ev} {sp : List Value} (h : w.heap[rb]? = some (.cells (evsC ring ++ sp).toArray 42 (0, 0))) (p : Nat) (evs : List Ev) (he : ∃ m, (ring.drop p).take m = evs) :
    ∀ j v, (evsC evs)[j]? = some v → w.cell? ((⟨rb, p * 5, none⟩ : Addr).add j) = some v := fun j v hj => by
  obtain ⟨m, rfl⟩ := he
  have hadd : (⟨rb, p * 5, none⟩ : Addr).add j = ⟨rb, p * 5 + j, none⟩ := by unfold Addr.add; split <;> simp_all
  rw [hadd, cell_of_row _ _ _ _ _ _ h, List.getElem?_toArray]
  rw [← evsC_take, ← evsC_drop, List.getElem?_take] at hj
  split at hj
  · rw [List.getElem?_drop] at hj
    rw [List.getElem?_append_left (List.getElem?_eq_some_iff.1 hj).1]
    exact hj
  · cases hj

/-- What is read from the ring is what waits. -/
theorem recv_list {ring l : List Ev} {f cap k : Nat} (hlen : ring.length = cap) (hf : f < cap) (hlc : l.length ≤ cap) (hx : ∀ (i : Nat) x, l[i]? = some x → ring[(f + i) % cap]? = some x) (hk : k ≤ l.length) :
    (ring.drop f ++ ring).take k = l.take k := by
  refine List.ext_getElem? fun i => ?_
  rw [List.getElem?_take, List.getElem?_take]
  split
  · rename_i hi
    obtain ⟨x, hxi⟩ : ∃ x, l[i]? = some x := ⟨_, List.getElem?_eq_getElem (by omega)⟩
    have h := hx i x hxi
    rw [hxi, ← h]
    by_cases h1 : f + i < cap
    · rw [List.getElem?_append_left (by simp; omega), List.getElem?_drop, Nat.mod_eq_of_lt h1]
    · rw [List.getElem?_append_right (by simp; omega), List.length_drop, hlen, Nat.mod_eq_sub_mod (by omega), Nat.mod_eq_of_lt (by omega)]
      congr 1
      omega
  · rfl
theorem recv_short {ring l : List Ev} {f cap k : Nat} (hlen : ring.length = cap) (hf : f < cap) (hlc : l.length ≤ cap) (hx : ∀ (i : Nat) x, l[i]? = some x → ring[(f + i) % cap]? = some x) (hk : k ≤ l.length) (h : k ≤ cap - f) :
    (ring.drop f).take k = l.take k := by
  have := recv_list hlen hf hlc hx hk
  rwa [List.take_append_of_le_length (by simp; omega)] at this
theorem recv_long {ring l : List Ev} {f cap k : Nat} (hlen : ring.length = cap) (hf : f < cap) (hlc : l.length ≤ cap) (hx : ∀ (i : Nat) x, l[i]? = some x → ring[(f + i) % cap]? = some x) (hk : k ≤ l.length) (h : cap - f < k) :
    ring.drop f ++ ring.take (k - (cap - f)) = l.take k := by
  have := recv_list hlen hf hlc hx hk
  rwa [List.take_append, List.take_of_length_le (by simp; omega), List.length_drop, hlen] at this

/-- The ring whose first i places are cleared: what waits behind k stays. -/
def Clr (l : List Ev) (f cap k : Nat) (ring : List Ev) : Prop := ring.length = cap ∧ ∀ (j : Nat) x, l[j]? = some x → k ≤ j → ring[(f + j) % cap]? = some x
theorem Clr.set {l ring : List Ev} {f cap k i : Nat} (h : Clr l f cap k ring) (hlc : l.length ≤ cap) (hi : i < k) : Clr l f cap k (ring.set ((f + i) % cap) ev0) := by
  refine ⟨by rw [List.length_set]; exact h.1, fun j x hj hkj => ?_⟩
  have hjl := (List.getElem?_eq_some_iff.1 hj).1
  have : (f + i) % cap ≠ (f + j) % cap := fun e => by
    have e3 : (f + j) - (f + i) = j - i := by omega
    have h4 := Nat.sub_mod_eq_zero_of_mod_eq e.symm
    rw [e3, Nat.mod_eq_of_lt (by omega)] at h4
    omega
  rw [List.getElem?_set_ne this]
  exact h.2 j x hj hkj
/-- What waits when k events have been taken. -/
theorem Que.taken {w : World} {sb rb cap cc f k : Nat} {ring l : List Ev} {sp : List Value} {lost : Bool} (hcc : cap ≤ cc) (hcm : cc ≤ 9223372036854775807) (h1 : w.heap[sb]? = some (.cells (skC rb cap cc ((f + k) % cap) (l.length - k) lost) 52 (0, 0))) (h2 : w.heap[rb]? = some (.cells (evsC ring ++ sp).toArray 42 (0, 0)))
    (hc : Clr l f cap k ring) (c1 : 1 ≤ cap) (c2 : cap ≤ 256) (hlc : l.length ≤ cap) (hne : sb ≠ rb) : Que w sb rb cap (l.drop k) lost := by
  refine ⟨cc, (f + k) % cap, ring, sp, ⟨by rw [List.length_drop]; exact h1, h2, hcc, hcm, hc.1, c1, c2, Nat.mod_lt _ (by omega), by rw [List.length_drop]; omega, hne⟩, fun i x hx => ?_⟩
  rw [List.getElem?_drop] at hx
  rw [Nat.mod_add_mod, Nat.add_assoc]
  exact hc.2 (k + i) x hx (by omega)
end Go.Proofs.Ytikjbhjdpamceaa
