/- Contents in memory: seven cells each, those inside behind a slice. No seat: the walks of a seat import it. -/
import Derived.Test.YtoohnjlghjapnaaDoorT3
import Derived.WalkKit
import Derived.Deep.MidRow
import Derived.Below
namespace Go.Proofs.YtoohnjlghjapnaaDoor
open Go.RowKit

/-- A text's bytes. -/
def bs (s : List UInt8) : ByteArray := ⟨s.toArray⟩
theorem bs_data (s : List UInt8) : (bs s).data.toList = s := rfl
theorem bs_of (s : ByteArray) : bs s.data.toList = s := by
  unfold bs
  rw [Array.toArray_toList]
theorem bs_size (s : List UInt8) : (bs s).size = s.length := rfl
/-- The texts are of a length that a text may have. -/
def Tx (c : Con) : Prop := c.id.length ≤ maxLen ∧ c.lab.length ≤ maxLen
/-- The cells of a content whose inner contents lie behind the slice v. -/
def conC (c : Con) (v : Value) : List Value := [.int .i64 c.kind, Value.string (bs c.id), Value.string (bs c.lab), .int .i64 c.slot, .int .i64 c.tot, .int .i64 c.lst, v]
theorem conC_len (c : Con) (v : Value) : (conC c v).length = 7 := rfl
mutual
/-- The slice v holds the contents inside c; the blocks that are used satisfy Q. -/
def CIn (Q : Nat → Prop) (W : World) : Con → Value → Prop
  | .mk _ _ _ _ _ _ l, v => (l = [] ∧ ∃ a n, v = .slice a 0 n) ∨ ∃ b o n, v = .slice (some ⟨b, o, none⟩) l.length n ∧ l.length ≤ n ∧ n ≤ maxLen ∧ Q b ∧ b < W.heap.size ∧ CRow Q W b o l
/-- The contents lie in block b from cell o on. -/
def CRow (Q : Nat → Prop) (W : World) (b : Nat) : Nat → List Con → Prop
  | _, [] => True
  | o, c :: l => (∃ v, W.rangeAt b o (conC c v) ∧ Tx c ∧ CIn Q W c v) ∧ CRow Q W b (o + 7) l
end
/-- The slice v holds these contents. -/
def CHas (Q : Nat → Prop) (W : World) (v : Value) (l : List Con) : Prop := (l = [] ∧ ∃ a n, v = .slice a 0 n) ∨ ∃ b o n, v = .slice (some ⟨b, o, none⟩) l.length n ∧ l.length ≤ n ∧ n ≤ maxLen ∧ Q b ∧ b < W.heap.size ∧ CRow Q W b o l
variable {Q Q' : Nat → Prop} {W W' : World}
theorem CIn_iff {c : Con} {v : Value} : CIn Q W c v ↔ CHas Q W v c.inner := by
  obtain ⟨k, i, lab, s, t, e, l⟩ := c
  unfold CIn CHas
  exact Iff.rfl
theorem CRow.at_ {b : Nat} : ∀ {l : List Con} {o : Nat}, CRow Q W b o l → ∀ (j : Nat) c, l[j]? = some c → ∃ v, W.rangeAt b (o + j * 7) (conC c v) ∧ Tx c ∧ CHas Q W v c.inner
  | [], _, _, j, c, h => by simp at h
  | x :: l, o, h, j, c, hc => by
    unfold CRow at h
    match j with
    | 0 =>
      simp only [List.getElem?_cons_zero, Option.some.injEq] at hc
      subst hc
      obtain ⟨v, h1, hx, h2⟩ := h.1
      exact ⟨v, by rwa [Nat.zero_mul, Nat.add_zero], hx, CIn_iff.1 h2⟩
    | j + 1 =>
      have := CRow.at_ h.2 j c (by simpa using hc)
      rwa [show o + 7 + j * 7 = o + (j + 1) * 7 by omega] at this
theorem CRow.of {b : Nat} : ∀ {l : List Con} {o : Nat}, (∀ (j : Nat) c, l[j]? = some c → ∃ v, W.rangeAt b (o + j * 7) (conC c v) ∧ Tx c ∧ CHas Q W v c.inner) → CRow Q W b o l
  | [], _, _ => by unfold CRow; trivial
  | x :: l, o, h => by
    unfold CRow
    refine ⟨?_, CRow.of fun j c hc => ?_⟩
    · obtain ⟨v, h1, hx, h2⟩ := h 0 x rfl
      rw [Nat.zero_mul, Nat.add_zero] at h1
      exact ⟨v, h1, hx, CIn_iff.2 h2⟩
    · have := h (j + 1) c (by simpa using hc)
      rwa [show o + (j + 1) * 7 = o + 7 + j * 7 by omega] at this
theorem rangeAt_below {b o : Nat} {cs : List Value} (h : W.rangeAt b o cs) (hb : W'.heap[b]? = W.heap[b]?) : W'.rangeAt b o cs := fun j v hv => by
  have := h j v hv
  simp only [World.cell?, hb] at this ⊢
  exact this
mutual
theorem CIn.keep (hs : W.heap.size ≤ W'.heap.size) (hk : ∀ k, k < W.heap.size → Q k → Q' k ∧ W'.heap[k]? = W.heap[k]?) : ∀ (c : Con) (v : Value), CIn Q W c v → CIn Q' W' c v
  | .mk _ _ _ _ _ _ l, v, h => by
    unfold CIn at h ⊢
    rcases h with h | ⟨b, o, n, h1, h2, hm, hq, h3, h4⟩
    · exact .inl h
    · exact .inr ⟨b, o, n, h1, h2, hm, (hk b h3 hq).1, Nat.lt_of_lt_of_le h3 hs, CRow.keep hs hk l b o hq h3 h4⟩
theorem CRow.keep (hs : W.heap.size ≤ W'.heap.size) (hk : ∀ k, k < W.heap.size → Q k → Q' k ∧ W'.heap[k]? = W.heap[k]?) : ∀ (l : List Con) (b o : Nat), Q b → b < W.heap.size → CRow Q W b o l → CRow Q' W' b o l
  | [], _, _, _, _, _ => by unfold CRow; trivial
  | c :: l, b, o, hq, hb, h => by
    unfold CRow at h ⊢
    obtain ⟨⟨v, h1, hx, h2⟩, h3⟩ := h
    exact ⟨⟨v, rangeAt_below h1 (hk b hb hq).2, hx, CIn.keep hs hk c v h2⟩, CRow.keep hs hk l b (o + 7) hq hb h3⟩
end
theorem CHas.keep {v : Value} {l : List Con} (h : CHas Q W v l) (hs : W.heap.size ≤ W'.heap.size) (hk : ∀ k, k < W.heap.size → Q k → Q' k ∧ W'.heap[k]? = W.heap[k]?) : CHas Q' W' v l := by
  rcases h with h | ⟨b, o, n, h1, h2, hm, hq, h3, h4⟩
  · exact .inl h
  · exact .inr ⟨b, o, n, h1, h2, hm, (hk b h3 hq).1, Nat.lt_of_lt_of_le h3 hs, CRow.keep hs hk l b o hq h3 h4⟩
theorem CHas.below {v : Value} {l : List Con} (h : CHas Q W v l) (hb : Below W.heap.size W W') : CHas Q W' v l := h.keep hb.size fun k hk hq => ⟨hq, hb.block k hk⟩
theorem CHas.mono {v : Value} {l : List Con} (h : CHas Q W v l) (hq : ∀ k, k < W.heap.size → Q k → Q' k) : CHas Q' W v l := h.keep (Nat.le_refl _) fun k hk hk' => ⟨hq k hk hk', rfl⟩
theorem CHas.form {v : Value} {l : List Con} (h : CHas Q W v l) : ∃ a n, v = .slice a l.length n ∧ (l ≠ [] → ∃ b o, a = some ⟨b, o, none⟩ ∧ l.length ≤ n ∧ n ≤ maxLen ∧ Q b ∧ b < W.heap.size ∧ CRow Q W b o l) := by
  rcases h with ⟨rfl, a, n, rfl⟩ | ⟨b, o, n, rfl, h⟩
  · exact ⟨a, n, rfl, fun h => absurd rfl h⟩
  · exact ⟨_, _, rfl, fun _ => ⟨b, o, rfl, h⟩⟩
theorem CHas.nil (Q : Nat → Prop) (W : World) : CHas Q W (.slice none 0 0) [] := .inl ⟨rfl, none, 0, rfl⟩
theorem CRow.cells {b o : Nat} {l : List Con} (h : CRow Q W b o l) {j : Nat} {c : Con} (hc : l[j]? = some c) : ∃ v, CHas Q W v c.inner ∧ Tx c ∧
    W.cell? ⟨b, o + j * 7, none⟩ = some (.int .i64 c.kind) ∧ W.cell? ⟨b, o + j * 7 + 1, none⟩ = some (Value.string (bs c.id)) ∧ W.cell? ⟨b, o + j * 7 + 2, none⟩ = some (Value.string (bs c.lab)) ∧ W.cell? ⟨b, o + j * 7 + 3, none⟩ = some (.int .i64 c.slot) ∧
    W.cell? ⟨b, o + j * 7 + 4, none⟩ = some (.int .i64 c.tot) ∧ W.cell? ⟨b, o + j * 7 + 5, none⟩ = some (.int .i64 c.lst) ∧ W.cell? ⟨b, o + j * 7 + 6, none⟩ = some v := by
  obtain ⟨v, h1, hx, h2⟩ := h.at_ j c hc
  exact ⟨v, h2, hx, h1 0 _ rfl, h1 1 _ rfl, h1 2 _ rfl, h1 3 _ rfl, h1 4 _ rfl, h1 5 _ rfl, h1 6 _ rfl⟩
/-- The value of a content: an aggregate of seven cells. -/
def conV (c : Con) (v : Value) : Value := .agg #[.int .i64 c.kind, Value.string (bs c.id), Value.string (bs c.lab), .int .i64 c.slot, .int .i64 c.tot, .int .i64 c.lst, v]
end Go.Proofs.YtoohnjlghjapnaaDoor
