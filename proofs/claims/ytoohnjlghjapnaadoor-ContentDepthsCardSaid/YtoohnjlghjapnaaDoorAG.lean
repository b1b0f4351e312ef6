/- A copy of a valid content. -/
import Derived.Test.YtoohnjlghjapnaaDoorAF
import Derived.Deep.MidRow
namespace Go.Proofs.YtoohnjlghjapnaaDoor
open Go.RowKit

/-- What the copier leaves. -/
def CopyPost (c : Con) (W : World) (r : Ending) (w' : World) : Prop :=
  ∃ v, r = .returned (.agg #[.int .i64 c.kind, .string (bs c.id), .string (bs c.lab), .int .i64 c.slot, .int .i64 c.tot, .int .i64 c.lst, v]) ∧ CHas (fun b => W.heap.size ≤ b) w' v c.inner ∧ Kp [] W w'
def CopyOK (d : Nat) : Prop := ∀ (Q : Nat → Prop) (c : Con) (a : Option Addr) (n : Nat) (W : World), valN d c = true → CHas Q W (.slice a c.inner.length n) c.inner → (∀ b, Q b → b < W.heap.size) →
  Calls Tryd.prog 47 #[.agg #[.int .i64 c.kind, .string (bs c.id), .string (bs c.lab), .int .i64 c.slot, .int .i64 c.tot, .int .i64 c.lst, .slice a c.inner.length n]] W (CopyPost c W)
/-- Where the loop of the copier stands: i contents of the row are copies. -/
structure CopyAt (A g n i : Nat) (Q : Nat → Prop) (l : List Con) (L : List (Con × Value)) (w : World) : Prop where
  con : L.map Prod.fst = l
  row : ∀ (j : Nat) p, L[j]? = some p → w.rangeAt g (j * 7) (conC p.1 p.2)
  wr : w.there g 0 (l.length * 7)
  lo : ∀ (j : Nat) p, L[j]? = some p → j < i → Tx p.1 ∧ CHas (fun b => A + 2 ≤ b ∧ b ≠ g) w p.2 p.1.inner
  hi : ∀ (j : Nat) p, L[j]? = some p → i ≤ j → Tx p.1 ∧ CHas Q w p.2 p.1.inner
theorem there_kp {w w' : World} {g o n : Nat} (h : w.there g o n) (hk : w'.heap[g]? = w.heap[g]?) : w'.there g o n := fun j hj => by
  have := h j hj
  unfold World.cell? World.frozen? at this ⊢
  rw [hk]
  exact this
theorem range_kp {w w' : World} {g o : Nat} {cs : List Value} (h : w.rangeAt g o cs) (hk : w'.heap[g]? = w.heap[g]?) : w'.rangeAt g o cs := fun j v hv => by
  have := h j v hv
  unfold World.cell? at this ⊢
  rw [hk]
  exact this
theorem CopyAt.kp {A g n i : Nat} {Q : Nat → Prop} {l : List Con} {L : List (Con × Value)} {w w' : World} (h : CopyAt A g n i Q l L w) (hk : Kp [] w w') (hg : g < w.heap.size) : CopyAt A g n i Q l L w' :=
  ⟨h.con, fun j p hj => range_kp (h.row j p hj) (hk.block g hg (by simp)), there_kp h.wr (hk.block g hg (by simp)), fun j p hj hji => ⟨(h.lo j p hj hji).1, kp_has (h.lo j p hj hji).2 hk⟩, fun j p hj hji => ⟨(h.hi j p hj hji).1, kp_has (h.hi j p hj hji).2 hk⟩⟩
theorem setCells_kp (b : Nat) : ∀ (vs : List Value) (o : Nat) (w : World), Kp [b] w (w.setCells b o vs)
  | [], _, w => Kp.refl _ w
  | v :: r, o, w => by
    rw [World.setCells]
    exact ((Kp.refl [b] w).setCell (.inl (by simp)) v).trans (setCells_kp b r (o + 1) _)
/-- One more content of the row is a copy. -/
theorem CopyAt.step {A g n i : Nat} {Q : Nat → Prop} {l : List Con} {L : List (Con × Value)} {w : World} (h : CopyAt A g n i Q l L w) {p : Con × Value} {u : Value} (hp : L[i]? = some p) (hA : A + 2 ≤ g) (hQ : ∀ b, Q b → b < A)
    (hu : CHas (fun b => A + 2 ≤ b ∧ b ≠ g) w u p.1.inner) : CopyAt A g n (i + 1) Q l (L.set i (p.1, u)) (w.setCells g (i * 7) (conC p.1 u)) := by
  have hil := (List.getElem?_eq_some_iff.1 hp).1
  have hll : L.length = l.length := by rw [← h.con, List.length_map]
  have hk := setCells_kp g (conC p.1 u) (i * 7) w
  have get : ∀ (j : Nat) q, (L.set i (p.1, u))[j]? = some q → (j = i ∧ q = (p.1, u)) ∨ (j ≠ i ∧ L[j]? = some q) := fun j q hq => by
    by_cases e : j = i
    · subst e
      rw [List.getElem?_set_self hil] at hq
      exact .inl ⟨rfl, (Option.some.inj hq).symm⟩
    · rw [List.getElem?_set_ne (Ne.symm e)] at hq
      exact .inr ⟨e, hq⟩
  have keepQ : ∀ k, k < w.heap.size → Q k → Q k ∧ (w.setCells g (i * 7) (conC p.1 u)).heap[k]? = w.heap[k]? := fun k hkk hq => ⟨hq, hk.block k hkk (by simp; have := hQ k hq; omega)⟩
  have keepN : ∀ k, k < w.heap.size → (A + 2 ≤ k ∧ k ≠ g) → (A + 2 ≤ k ∧ k ≠ g) ∧ (w.setCells g (i * 7) (conC p.1 u)).heap[k]? = w.heap[k]? := fun k hkk hq => ⟨hq, hk.block k hkk (by simp; exact hq.2)⟩
  refine ⟨?_, fun j q hq => ?_, World.there_setCells h.wr _ _ _, fun j q hq hj => ?_, fun j q hq hj => ?_⟩
  · rw [← h.con]
    apply List.ext_getElem?
    intro j
    rw [List.getElem?_map, List.getElem?_map]
    by_cases e : j = i
    · subst e
      rw [List.getElem?_set_self hil, hp]
      rfl
    · rw [List.getElem?_set_ne (Ne.symm e)]
  · rcases get j q hq with ⟨rfl, rfl⟩ | ⟨e, hq⟩
    · refine World.rangeAt_setCells_same _ _ _ _ fun m hm => ?_
      rw [conC_len] at hm
      have := h.wr (j * 7 + m) (by omega)
      rwa [Nat.zero_add] at this
    · exact World.rangeAt_setCells_apart (h.row j q hq) _ _ _ (.inr (by rw [conC_len, conC_len]; omega))
  · rcases get j q hq with ⟨rfl, rfl⟩ | ⟨e, hq⟩
    · exact ⟨(h.hi j p hp (Nat.le_refl _)).1, hu.keep hk.size keepN⟩
    · have := h.lo j q hq (by omega)
      exact ⟨this.1, this.2.keep hk.size keepN⟩
  · rcases get j q hq with ⟨rfl, rfl⟩ | ⟨e, hq⟩
    · omega
    · have := h.hi j q hq (by omega)
      exact ⟨this.1, this.2.keep hk.size keepQ⟩
theorem CopyAt.has {A g n : Nat} {Q : Nat → Prop} {l : List Con} {L : List (Con × Value)} {w : World} (h : CopyAt A g n l.length Q l L w) (hA : A + 2 ≤ g) (hg : g < w.heap.size) (hn : l.length ≤ n) (hm : n ≤ maxLen) :
    CHas (fun b => A + 2 ≤ b) w (.slice (some ⟨g, 0, none⟩) l.length n) l := by
  refine .inr ⟨g, 0, n, rfl, hn, hm, hA, hg, CRow.of fun j c hj => ?_⟩
  have hj' : (L.map Prod.fst)[j]? = some c := by rw [h.con]; exact hj
  rw [List.getElem?_map] at hj'
  obtain ⟨p, hp, rfl⟩ := Option.map_eq_some_iff.1 hj'
  have hl := h.lo j p hp (List.getElem?_eq_some_iff.1 hj).1
  refine ⟨p.2, ?_, hl.1, hl.2.mono fun _ _ hq => hq.1⟩
  rw [Nat.zero_add]
  exact h.row j p hp
end Go.Proofs.YtoohnjlghjapnaaDoor
