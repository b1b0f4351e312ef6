/- Rows of contents of a call's own; the inner contents of a content are read. -/
import Derived.Test.YtoohnjlghjapnaaDoorH
import Derived.Laws.OwnMore
namespace Go.Proofs.YtoohnjlghjapnaaDoor
open Go.RowKit

theorem info_parts {P : Program} {t : TypeId} {z : Value} {s b : Nat} (h : (P.info? t).map (fun i => (i.zero, i.size, i.bytes)) = some (some z, s, b)) : ∃ i, P.info? t = some i ∧ i.zero = some z ∧ i.size = s ∧ i.bytes = b := by
  cases hi : P.info? t with
  | none => rw [hi] at h; cases h
  | some i =>
    rw [hi] at h
    simp only [Option.map_some, Option.some.injEq, Prod.mk.injEq] at h
    exact ⟨i, rfl, h.1, h.2.1, h.2.2⟩
theorem info24 : (Tryd.prog.info? 24).map (fun i => (i.zero, i.size, i.bytes)) = some (some (.agg #[.int .i64 0, .string ⟨#[]⟩, .string ⟨#[]⟩, .int .i64 0, .int .i64 0, .int .i64 0, .slice none 0 0]), 7, 88) := by kernel_rfl

/-- The cells of contents, each with the slice of what is inside. -/
def rowC (L : List (Con × Value)) : List Value := L.flatMap fun p => conC p.1 p.2
theorem rowC_len : ∀ L : List (Con × Value), (rowC L).length = L.length * 7
  | [] => rfl
  | p :: L => by
    have := rowC_len L
    unfold rowC at this ⊢
    rw [List.flatMap_cons, List.length_append, this, conC_len, List.length_cons]
    omega
theorem rowC_append (a b : List (Con × Value)) : rowC (a ++ b) = rowC a ++ rowC b := List.flatMap_append
theorem rowC_get : ∀ (L : List (Con × Value)) (j : Nat) (p : Con × Value) (m : Nat), L[j]? = some p → m < 7 → (rowC L)[j * 7 + m]? = (conC p.1 p.2)[m]?
  | [], j, p, m, h, _ => by simp at h
  | q :: L, 0, p, m, h, hm => by
    simp only [List.getElem?_cons_zero, Option.some.injEq] at h
    subst h
    have e : rowC (q :: L) = conC q.1 q.2 ++ rowC L := rfl
    rw [e, List.getElem?_append_left (by rw [conC_len]; omega), Nat.zero_mul, Nat.zero_add]
  | q :: L, j + 1, p, m, h, hm => by
    have := rowC_get L j p m (by simpa using h) hm
    have e : rowC (q :: L) = conC q.1 q.2 ++ rowC L := rfl
    rw [e, List.getElem?_append_right (by rw [conC_len]; omega), conC_len, show (j + 1) * 7 + m - 7 = j * 7 + m by omega]
    exact this
theorem conC_one {c : Con} {v : Value} (hv : v.oneCell' = true) : ∀ u ∈ conC c v, u.oneCell' = true := fun u hu => by
  simp only [conC, List.mem_cons, List.not_mem_nil, or_false] at hu
  rcases hu with rfl | rfl | rfl | rfl | rfl | rfl | rfl <;> first | rfl | exact hv
/-- A row of contents of a call's own, what is inside apart from the row itself. -/
def LOwn (w : World) (B : Nat) (v : Value) (L : List (Con × Value)) : Prop :=
  w.ownsRow B 24 7 v L.length (rowC L) ∧ ∀ p ∈ L, Tx p.1 ∧ CHas (fun b => B ≤ b ∧ v.ownBlock ≠ some b) w p.2 p.1.inner
theorem LOwn.keep {w w' : World} {B : Nat} {v : Value} {L : List (Con × Value)} (h : LOwn w B v L) (hs : w.heap.size ≤ w'.heap.size) (hk : ∀ b, B ≤ b → b < w.heap.size → w'.heap[b]? = w.heap[b]?) : LOwn w' B v L := by
  refine ⟨⟨h.1.1, ?_⟩, fun p hp => ⟨(h.2 p hp).1, (h.2 p hp).2.keep hs fun k hkk hq => ⟨hq, hk k hq.1 hkk⟩⟩⟩
  rcases h.1.2 with hn | ⟨g, cap, cur, hv, hB, hh, rest⟩
  · exact .inl hn
  · exact .inr ⟨g, cap, cur, hv, hB, (hk g hB (block_lt hh)).trans hh, rest⟩
theorem LOwn.kp {w w' : World} {B : Nat} {v : Value} {L : List (Con × Value)} {S : List Nat} (h : LOwn w B v L) (hk : Kp S w w') (hS : ∀ x ∈ S, x < B) : LOwn w' B v L :=
  h.keep hk.size fun b hb hbs => hk.block b hbs fun hm => by have := hS b hm; omega
theorem LOwn.form {w : World} {B : Nat} {v : Value} {L : List (Con × Value)} (h : LOwn w B v L) : ∃ a c, v = .slice a L.length c := by
  rcases h.1.2 with ⟨hv, hn⟩ | ⟨g, cap, cur, hv, _⟩
  · exact ⟨none, 0, by rw [hv, hn]⟩
  · exact ⟨_, _, hv⟩
theorem LOwn.one {w : World} {B : Nat} {c : Con} {u : Value} (hB : B ≤ w.heap.size) (hx : Tx c) (hu : CHas (fun b => B ≤ b) w u c.inner) :
    LOwn (w.alloc (.cells (conC c u).toArray 24)) B (.slice (some ⟨w.heap.size, 0, none⟩) 1 1) [(c, u)] := by
  refine ⟨?_, fun p hp => ?_⟩
  · have := World.ownsRow_lit (base := B) (e := 24) (size := 7) w (conC c u).toArray 1 hB (by unfold maxLen; omega) (by simp [conC_len])
    simpa [rowC] using this
  · rw [List.mem_singleton] at hp
    subst hp
    refine ⟨hx, hu.keep (by rw [al_size]; omega) fun k hk hq => ⟨⟨hq, ?_⟩, al_old _ _ hk⟩⟩
    show some w.heap.size ≠ some k
    intro e
    cases e
    omega
theorem LOwn.snoc {w w' : World} {B : Nat} {v v' : Value} {L : List (Con × Value)} {c : Con} {u : Value} (h : LOwn w B v L) (hx : Tx c) (hu : CHas (fun b => B ≤ b ∧ v.ownBlock ≠ some b) w u c.inner)
    (ho : w'.ownsRow B 24 7 v' (L.length + 1) (rowC L ++ conC c u)) (hg : w.grownBy w' v.ownBlock) (ha : v'.ownBlock = v.ownBlock ∨ v'.ownBlock = some w.heap.size) : LOwn w' B v' (L ++ [(c, u)]) := by
  have hq : ∀ k, k < w.heap.size → (B ≤ k ∧ v.ownBlock ≠ some k) → (B ≤ k ∧ v'.ownBlock ≠ some k) ∧ w'.heap[k]? = w.heap[k]? := fun k hk hq => by
    refine ⟨⟨hq.1, ?_⟩, hg.block k hk fun e => hq.2 e.symm⟩
    rcases ha with e | e
    · rw [e]; exact hq.2
    · rw [e]; intro e2; cases e2; omega
  refine ⟨?_, fun p hp => ?_⟩
  · rw [rowC_append, List.length_append]
    simpa [rowC] using ho
  · rw [List.mem_append, List.mem_singleton] at hp
    rcases hp with hp | rfl
    · exact ⟨(h.2 p hp).1, (h.2 p hp).2.keep hg.size hq⟩
    · exact ⟨hx, hu.keep hg.size hq⟩
theorem LOwn.has {w : World} {B : Nat} {v : Value} {L : List (Con × Value)} (h : LOwn w B v L) : CHas (fun b => B ≤ b) w v (L.map Prod.fst) := by
  rcases h.1.2 with ⟨hv, hn⟩ | ⟨g, cap, cur, hv, hB, hh, hc, hm, hz, ht⟩
  · have : L = [] := List.length_eq_zero_iff.1 hn
    subst this
    exact .inl ⟨rfl, none, 0, hv⟩
  · refine .inr ⟨g, 0, cap, by rw [hv, List.length_map], by rw [List.length_map]; exact hc, hm, hB, block_lt hh, CRow.of fun j c hj => ?_⟩
    rw [List.getElem?_map] at hj
    obtain ⟨p, hp, rfl⟩ := Option.map_eq_some_iff.1 hj
    have hpm := List.mem_of_getElem? hp
    refine ⟨p.2, fun m u hu => ?_, (h.2 p hpm).1, (h.2 p hpm).2.mono fun k _ hq => hq.1⟩
    have hjl := (List.getElem?_eq_some_iff.1 hp).1
    have hml : m < 7 := (List.getElem?_eq_some_iff.1 hu).1
    have hg := rowC_get L j p m hp hml
    rw [← ht, List.getElem?_take, if_pos (by omega)] at hg
    rw [cell_of_row _ _ _ _ _ _ hh, Nat.zero_add, ← Array.getElem?_toList, hg, hu]
theorem grown_kp {w w' : World} {B : Nat} {v : Value} (hg : w.grownBy w' v.ownBlock) (hv : ∀ k, v.ownBlock = some k → B ≤ k) {w0 : World} {S : List Nat} (hk : Kp S w0 w) (hB : w0.heap.size ≤ B) : Kp S w0 w' :=
  ⟨hg.os.trans hk.os, hg.tape.trans hk.tape, hg.output.trans hk.output, Nat.le_trans hk.size hg.size, fun k hkk hs => (hg.block k (Nat.lt_of_lt_of_le hkk hk.size) fun e => by have := hv k e.symm; omega).trans (hk.block k hkk hs)⟩
end Go.Proofs.YtoohnjlghjapnaaDoor
