/- length, whatever the pair. -/
import Derived.Test.YtapiofcdifligaaDoorU
import Derived.Test.YtapiofcdifligaaDoorV
namespace Go.Proofs.YtapiofcdifligaaDoor
open Go.RowKit Go.Maps

theorem length_ind (K : SK) (a b : List El) (hA : Apart K a b) (hal : a.length ≤ 4096) (hbl : b.length ≤ 4096) : ∀ (n i k : Nat) (x y : Int) (w : World), x = i → y = k → i ≤ a.length → k ≤ b.length → a.length - i + (b.length - k) ≤ n → SAt K a b w → LenMap K a b w →
    Calls Tryd.prog 52 #[.pointer (some ⟨K.Sb, 0, none⟩), .agg #[.int .i64 x, .int .i64 y]] w (LenPost K a b i k w)
  | n, i, k, x, y, w, hx, hy, hi, hk, hn, hs, hm => by
    subst hx
    subst hy
    have hrec : LenRec K a b i k := fun i' k' x' y' w' hx' hy' hi' hk' hlt hs' hm' => by
      cases n with
      | zero => omega
      | succ n => exact length_ind K a b hA hal hbl n i' k' x' y' w' hx' hy' hi' hk' (by omega) hs' hm'
    obtain ⟨S, D, h⟩ := hm
    by_cases hin : (i, k) ∈ S
    · exact length_hit K a b i k w hs hi hk hal hbl h hin
    by_cases hfin : i = a.length ∧ k = b.length
    · exact length_fin K a b i k w hA hs hi hk hal hbl h hin hrec hfin
    cases hsa : starAt a i <;> cases hsb : starAt b k <;> cases hst : stepP a b i k
    · exact length_nnn K a b i k w hA hs hi hk hal hbl h hin hrec hfin hsa hsb hst
    · exact length_nnt K a b i k w hA hs hi hk hal hbl h hin hrec hfin hsa hsb hst
    · exact length_ntn K a b i k w hA hs hi hk hal hbl h hin hrec hfin hsa hsb hst
    · exact length_ntt K a b i k w hA hs hi hk hal hbl h hin hrec hfin hsa hsb hst
    · exact length_tnn K a b i k w hA hs hi hk hal hbl h hin hrec hfin hsa hsb hst
    · exact length_tnt K a b i k w hA hs hi hk hal hbl h hin hrec hfin hsa hsb hst
    · exact length_ttn K a b i k w hA hs hi hk hal hbl h hin hrec hfin hsa hsb hst
    · exact length_ttt K a b i k w hA hs hi hk hal hbl h hin hrec hfin hsa hsb hst

theorem length_any (K : SK) (a b : List El) (i k : Nat) (w : World) (hA : Apart K a b) (hs : SAt K a b w) (hm : LenMap K a b w) (hi : i ≤ a.length) (hk : k ≤ b.length) (hal : a.length ≤ 4096) (hbl : b.length ≤ 4096) (x y : Int) (hx : x = i) (hy : y = k) :
    Calls Tryd.prog 52 #[.pointer (some ⟨K.Sb, 0, none⟩), .agg #[.int .i64 x, .int .i64 y]] w (LenPost K a b i k w) :=
  length_ind K a b hA hal hbl _ i k x y w hx hy hi hk (Nat.le_refl _) hs hm

/-! gather -/

def pairsV (F : List (Nat × Nat)) : List Value := F.flatMap fun z => [.int .i64 (z.1 : Int), .int .i64 (z.2 : Int)]
theorem pairsV_length (F : List (Nat × Nat)) : (pairsV F).length = F.length * 2 := by
  induction F with
  | nil => rfl
  | cons z r ih =>
    have : pairsV (z :: r) = [.int .i64 (z.1 : Int), .int .i64 (z.2 : Int)] ++ pairsV r := rfl
    rw [this, List.length_append, ih]
    simp
    omega
theorem pairsV_snoc (F : List (Nat × Nat)) (z : Nat × Nat) : pairsV (F ++ [z]) = pairsV F ++ [.int .i64 (z.1 : Int), .int .i64 (z.2 : Int)] := by
  unfold pairsV
  rw [List.flatMap_append]
  simp
theorem pairsV_get : ∀ (F : List (Nat × Nat)) (i : Nat) (z : Nat × Nat), F[i]? = some z → (pairsV F)[i * 2]? = some (.int .i64 (z.1 : Int)) ∧ (pairsV F)[i * 2 + 1]? = some (.int .i64 (z.2 : Int))
  | [], i, z, h => by simp at h
  | y :: r, 0, z, h => by
    have : y = z := by simpa using h
    subst this
    exact ⟨rfl, rfl⟩
  | y :: r, i + 1, z, h => by
    have := pairsV_get r i z (by simpa using h)
    rw [show (i + 1) * 2 = i * 2 + 2 from by omega, show i * 2 + 2 + 1 = i * 2 + 1 + 2 from by omega]
    exact this

def SeenMap (K : SK) (a b : List El) (S : List (Nat × Nat)) (w : World) : Prop := ∃ D, PMap w 4 K.M2 a.length b.length S (fun _ => .lit (.bool true)) D

theorem zero4b (w : World) : (zeroValue 4).run Tryd.prog w = .ok (.bool false) w := by kernel_rfl

theorem plainElem_bool_inv {e : TypeId} (he : Tryd.prog.underlying e = some .bool) {v : Value} {z : DataW Unit × List MemPlace} (h : plainElem Tryd.prog e v = some z) : ∃ x, v = .bool x ∧ z = (.lit (.bool x), []) := by
  unfold plainElem at h
  rw [he] at h
  cases v <;> simp at h
  exact ⟨_, rfl, h.symm⟩

set_option maxRecDepth 100000 in
theorem SeenMap.look {K : SK} {a b : List El} {W : World} {S : List (Nat × Nat)} (h : SeenMap K a b S W) {i k : Nat} (hi : i ≤ a.length) (hk : k ≤ b.length) (hal : a.length ≤ 4096) (hbl : b.length ≤ 4096) :
    (Instr.lookup 78 (.map (some K.M2)) (.agg #[.int .i64 i, .int .i64 k]) false).run Tryd.prog W = .ok (.bool (decide ((i, k) ∈ S))) W := by
  obtain ⟨D, hm⟩ := h
  have hf : Fits (i, k) := ⟨by show i ≤ 100000; omega, by show k ≤ 100000; omega⟩
  obtain ⟨v, ps, hrun, hv⟩ := hm.own.lookup law83 Tryd.underlying78 (zero4b W) (plainElem_bool Tryd.underlying4 false) (klit_eq hf)
  obtain ⟨x, rfl, hx⟩ := plainElem_bool_inv Tryd.underlying4 hv
  have h1 := (Prod.mk.inj hx).1
  by_cases hin : (i, k) ∈ S
  · rw [hm.val _ hin] at h1
    simp only [DataW.lit.injEq, Lit.bool.injEq] at h1
    rw [decide_eq_true hin]
    rw [← h1] at hrun
    exact hrun
  · rw [Maps.atKey_of_not_has (by rw [hm.has _ hf, decide_eq_false hin])] at h1
    simp only [DataW.lit.injEq, Lit.bool.injEq] at h1
    rw [decide_eq_false hin]
    rw [← h1] at hrun
    exact hrun

set_option maxRecDepth 100000 in
theorem SeenMap.store {K : SK} {a b : List El} {W : World} {S : List (Nat × Nat)} (h : SeenMap K a b S W) {i k : Nat} (hi : i ≤ a.length) (hk : k ≤ b.length) (hal : a.length ≤ 4096) (hbl : b.length ≤ 4096) (hn : (i, k) ∉ S) :
    ∃ w', (Instr.mapUpdate 78 (.map (some K.M2)) (.agg #[.int .i64 i, .int .i64 k]) (.bool true)).run Tryd.prog W = .ok () w' ∧ SeenMap K a b (S ++ [(i, k)]) w' ∧ Fr (· = K.M2) W w' := by
  obtain ⟨D, hm⟩ := h
  obtain ⟨w', D', hrun, hm', hg⟩ := hm.store Tryd.underlying78 ⟨by omega, by omega⟩ (z := (i, k)) ⟨hi, hk⟩ (plainElem_bool Tryd.underlying4 true)
  refine ⟨w', hrun, ⟨D', ?_⟩, Fr.of_grown hg (fun k hk => by cases hk; rfl)⟩
  have : insP S (i, k) = S ++ [(i, k)] := by unfold insP; rw [if_neg hn]
  rwa [this] at hm'

theorem SeenMap.kept {K : SK} {a b : List El} {W W' : World} {S : List (Nat × Nat)} (h : SeenMap K a b S W) (hb : W'.heap[K.M2]? = W.heap[K.M2]?) : SeenMap K a b S W' := by
  obtain ⟨D, hm⟩ := h
  exact ⟨D, hm.kept hb⟩
theorem SeenMap.lt {K : SK} {a b : List El} {W : World} {S : List (Nat × Nat)} (h : SeenMap K a b S W) : K.M2 < W.heap.size := by
  obtain ⟨D, hm⟩ := h
  exact hm.own.lt
theorem LenMap.kept {K : SK} {a b : List El} {W W' : World} (h : LenMap K a b W) (hb : W'.heap[K.M1]? = W.heap[K.M1]?) : LenMap K a b W' := by
  obtain ⟨S, D, hm⟩ := h
  exact ⟨S, D, hm.kept hb⟩
theorem LenMap.lt {K : SK} {a b : List El} {W : World} (h : LenMap K a b W) : K.M1 < W.heap.size := by
  obtain ⟨S, D, hm⟩ := h
  exact hm.own.lt

/-- What a row of pairs may have become: the blocks that may change, and where the row lies. -/
def XG (K : SK) (v : Value) (k : Nat) : Prop := k = K.M1 ∨ k = K.M2 ∨ v.ownBlock = some k
def Loc (w : World) (v v' : Value) : Prop := v'.ownBlock = v.ownBlock ∨ ∃ k, v'.ownBlock = some k ∧ w.heap.size ≤ k

theorem Loc.refl (w : World) (v : Value) : Loc w v v := Or.inl rfl
theorem Loc.trans {w w1 : World} {v v1 v2 : Value} (h : Loc w v v1) (hs : w.heap.size ≤ w1.heap.size) (h2 : Loc w1 v1 v2) : Loc w v v2 := by
  rcases h2 with h2 | ⟨k, h2, h3⟩
  · rcases h with h | ⟨k, h, h'⟩
    · exact Or.inl (h2.trans h)
    · exact Or.inr ⟨k, h2.trans h, h'⟩
  · exact Or.inr ⟨k, h2, Nat.le_trans hs h3⟩
theorem Fr.row {K : SK} {w w1 w2 : World} {v v1 : Value} (h : Fr (XG K v) w w1) (hl : Loc w v v1) (h2 : Fr (XG K v1) w1 w2) : Fr (XG K v) w w2 :=
  ⟨h2.os.trans h.os, h2.tape.trans h.tape, h2.output.trans h.output, Nat.le_trans h.size h2.size, fun k hk hx => by
    rw [h2.block k (Nat.lt_of_lt_of_le hk h.size) ?_, h.block k hk hx]
    rintro (h3 | h3 | h3)
    · exact hx (Or.inl h3)
    · exact hx (Or.inr (Or.inl h3))
    · rcases hl with hl | ⟨k', hl, hk'⟩
      · exact hx (Or.inr (Or.inr (hl ▸ h3)))
      · rw [hl] at h3
        cases h3
        omega⟩
end Go.Proofs.YtapiofcdifligaaDoor
