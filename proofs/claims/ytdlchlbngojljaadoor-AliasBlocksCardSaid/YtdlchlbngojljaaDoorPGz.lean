/- length, whatever the pair. gather: the pairs that are reached without a byte. gather: the walks. -/
import Derived.Test.YtdlchlbngojljaaDoorPGlU
import Derived.Test.YtdlchlbngojljaaDoorPGlV
namespace Go.Proofs.YtdlchlbngojljaaDoor.Gl
open Go.RowKit Go.Maps
theorem length_ind (K : SK) (a b : List El) (hA : Apart K a b) (hal : a.length ≤ 4096) (hbl : b.length ≤ 4096) : ∀ (n i k : Nat) (x y : Int) (w : World), x = i → y = k → i ≤ a.length → k ≤ b.length → a.length - i + (b.length - k) ≤ n → SAt K a b w → LenMap K a b w →
  Calls Tryd.prog 73 #[.pointer (some ⟨K.Sb, 0, none⟩), .agg #[.int .i64 x, .int .i64 y]] w (LenPost K a b i k w)
 | n, i, k, x, y, w, hx, hy, hi, hk, hn, hs, hm => by
  subst hx
  subst hy
  have hrec : LenRec K a b i k := fun i' k' x' y' w' hx' hy' hi' hk' hlt hs' hm' => by
   cases n with
   | zero => omega
   | succ n => exact length_ind K a b hA hal hbl n i' k' x' y' w' hx' hy' hi' hk' (by omega) hs' hm'
  obtain ⟨S, D, h⟩ := hm
  by_cases hin : (i, k) ∈ S
  ·exact length_hit K a b i k w hs hi hk hal hbl h hin
  by_cases hfin : i = a.length ∧ k = b.length
  ·exact length_fin K a b i k w hA hs hi hk hal hbl h hin hrec hfin
  cases hsa : starAt a i <;> cases hsb : starAt b k <;> cases hst : stepP a b i k
  ·exact length_nnn K a b i k w hA hs hi hk hal hbl h hin hrec hfin hsa hsb hst
  ·exact length_nnt K a b i k w hA hs hi hk hal hbl h hin hrec hfin hsa hsb hst
  ·exact length_ntn K a b i k w hA hs hi hk hal hbl h hin hrec hfin hsa hsb hst
  ·exact length_ntt K a b i k w hA hs hi hk hal hbl h hin hrec hfin hsa hsb hst
  ·exact length_tnn K a b i k w hA hs hi hk hal hbl h hin hrec hfin hsa hsb hst
  ·exact length_tnt K a b i k w hA hs hi hk hal hbl h hin hrec hfin hsa hsb hst
  ·exact length_ttn K a b i k w hA hs hi hk hal hbl h hin hrec hfin hsa hsb hst
  ·exact length_ttt K a b i k w hA hs hi hk hal hbl h hin hrec hfin hsa hsb hst
theorem length_any (K : SK) (a b : List El) (i k : Nat) (w : World) (hA : Apart K a b) (hs : SAt K a b w) (hm : LenMap K a b w) (hi : i ≤ a.length) (hk : k ≤ b.length) (hal : a.length ≤ 4096) (hbl : b.length ≤ 4096) (x y : Int) (hx : x = i) (hy : y = k) :
  Calls Tryd.prog 73 #[.pointer (some ⟨K.Sb, 0, none⟩), .agg #[.int .i64 x, .int .i64 y]] w (LenPost K a b i k w) :=
 length_ind K a b hA hal hbl _ i k x y w hx hy hi hk (Nat.le_refl _) hs hm
/-! gather -/
def pairsV (F : List (Nat × Nat)) : List Value := F.flatMap fun z => [.int .i64 (z.1 : Int), .int .i64 (z.2 : Int)]
theorem pairsV_length (F : List (Nat × Nat)) : (pairsV F).length = F.length * 2 := by
 induction F with
 | nil => rfl
 | cons z r ih =>
  have : pairsV (z :: r) = [.int .i64 (z.1 : Int), .int .i64 (z.2 : Int)] ++ pairsV r := rfl
  rw [this, List.length_append, ih]
  simp
  omega
theorem pairsV_snoc (F : List (Nat × Nat)) (z : Nat × Nat) : pairsV (F ++ [z]) = pairsV F ++ [.int .i64 (z.1 : Int), .int .i64 (z.2 : Int)] := by
 unfold pairsV
 rw [List.flatMap_append]
 simp
theorem pairsV_get : ∀ (F : List (Nat × Nat)) (i : Nat) (z : Nat × Nat), F[i]? = some z → (pairsV F)[i * 2]? = some (.int .i64 (z.1 : Int)) ∧ (pairsV F)[i * 2 + 1]? = some (.int .i64 (z.2 : Int))
 | [], i, z, h => by simp at h
 | y :: r, 0, z, h => by
  have : y = z := by simpa using h
  subst this
  exact ⟨rfl, rfl⟩
 | y :: r, i + 1, z, h => by
  have := pairsV_get r i z (by simpa using h)
  rw [show (i + 1) * 2 = i * 2 + 2 from by omega, show i * 2 + 2 + 1 = i * 2 + 1 + 2 from by omega]
  exact this
def SeenMap (K : SK) (a b : List El) (S : List (Nat × Nat)) (w : World) : Prop := ∃ D, PMap w 4 K.M2 a.length b.length S (fun _ => .lit (.bool true)) D
theorem zero4b (w : World) : (zeroValue 4).run Tryd.prog w = .ok (.bool false) w := by kernel_rfl
theorem plainElem_bool_inv {e : TypeId} (he : Tryd.prog.underlying e = some .bool) {v : Value} {z : DataW Unit × List MemPlace} (h : plainElem Tryd.prog e v = some z) : ∃ x, v = .bool x ∧ z = (.lit (.bool x), []) := by
 unfold plainElem at h
 rw [he] at h
 cases v <;> simp at h
 exact ⟨_, rfl, h.symm⟩
set_option maxRecDepth 100000 in
theorem SeenMap.look {K : SK} {a b : List El} {W : World} {S : List (Nat × Nat)} (h : SeenMap K a b S W) {i k : Nat} (hi : i ≤ a.length) (hk : k ≤ b.length) (hal : a.length ≤ 4096) (hbl : b.length ≤ 4096) :
  (Instr.lookup 127 (.map (some K.M2)) (.agg #[.int .i64 i, .int .i64 k]) false).run Tryd.prog W = .ok (.bool (decide ((i, k) ∈ S))) W := by
 obtain ⟨D, hm⟩ := h
 have hf : Fits (i, k) := ⟨by show i ≤ 100000; omega, by show k ≤ 100000; omega⟩
 obtain ⟨v, ps, hrun, hv⟩ := hm.own.lookup law83 Tryd.underlying127 (zero4b W) (plainElem_bool Tryd.underlying4 false) (klit_eq hf)
 obtain ⟨x, rfl, hx⟩ := plainElem_bool_inv Tryd.underlying4 hv
 have h1 := (Prod.mk.inj hx).1
 by_cases hin : (i, k) ∈ S
 ·rw [hm.val _ hin] at h1
  simp only [DataW.lit.injEq, Lit.bool.injEq] at h1
  rw [decide_eq_true hin]
  rw [← h1] at hrun
  exact hrun
 ·rw [Maps.atKey_of_not_has (by rw [hm.has _ hf, decide_eq_false hin])] at h1
  simp only [DataW.lit.injEq, Lit.bool.injEq] at h1
  rw [decide_eq_false hin]
  rw [← h1] at hrun
  exact hrun
set_option maxRecDepth 100000 in
theorem SeenMap.store {K : SK} {a b : List El} {W : World} {S : List (Nat × Nat)} (h : SeenMap K a b S W) {i k : Nat} (hi : i ≤ a.length) (hk : k ≤ b.length) (hal : a.length ≤ 4096) (hbl : b.length ≤ 4096) (hn : (i, k) ∉ S) :
  ∃ w', (Instr.mapUpdate 127 (.map (some K.M2)) (.agg #[.int .i64 i, .int .i64 k]) (.bool true)).run Tryd.prog W = .ok () w' ∧ SeenMap K a b (S ++ [(i, k)]) w' ∧ Fr (· = K.M2) W w' := by
 obtain ⟨D, hm⟩ := h
 obtain ⟨w', D', hrun, hm', hg⟩ := hm.store Tryd.underlying127 ⟨by omega, by omega⟩ (z := (i, k)) ⟨hi, hk⟩ (plainElem_bool Tryd.underlying4 true)
 refine ⟨w', hrun, ⟨D', ?_⟩, Fr.of_grown hg (fun k hk => by cases hk; rfl)⟩
 have : insP S (i, k) = S ++ [(i, k)] := by unfold insP; rw [if_neg hn]
 rwa [this] at hm'
theorem SeenMap.kept {K : SK} {a b : List El} {W W' : World} {S : List (Nat × Nat)} (h : SeenMap K a b S W) (hb : W'.heap[K.M2]? = W.heap[K.M2]?) : SeenMap K a b S W' := by
 obtain ⟨D, hm⟩ := h
 exact ⟨D, hm.kept hb⟩
theorem SeenMap.lt {K : SK} {a b : List El} {W : World} {S : List (Nat × Nat)} (h : SeenMap K a b S W) : K.M2 < W.heap.size := by
 obtain ⟨D, hm⟩ := h
 exact hm.own.lt
theorem LenMap.kept {K : SK} {a b : List El} {W W' : World} (h : LenMap K a b W) (hb : W'.heap[K.M1]? = W.heap[K.M1]?) : LenMap K a b W' := by
 obtain ⟨S, D, hm⟩ := h
 exact ⟨S, D, hm.kept hb⟩
theorem LenMap.lt {K : SK} {a b : List El} {W : World} (h : LenMap K a b W) : K.M1 < W.heap.size := by
 obtain ⟨S, D, hm⟩ := h
 exact hm.own.lt
/-- What a row of pairs may have become: the blocks that may change, and where the row lies. -/
def XG (K : SK) (v : Value) (k : Nat) : Prop := k = K.M1 ∨ k = K.M2 ∨ v.ownBlock = some k
def Loc (w : World) (v v' : Value) : Prop := v'.ownBlock = v.ownBlock ∨ ∃ k, v'.ownBlock = some k ∧ w.heap.size ≤ k
theorem Loc.refl (w : World) (v : Value) : Loc w v v := Or.inl rfl
theorem Loc.trans {w w1 : World} {v v1 v2 : Value} (h : Loc w v v1) (hs : w.heap.size ≤ w1.heap.size) (h2 : Loc w1 v1 v2) : Loc w v v2 := by
 rcases h2 with h2 | ⟨k, h2, h3⟩
 ·rcases h with h | ⟨k, h, h'⟩
  ·exact Or.inl (h2.trans h)
  ·exact Or.inr ⟨k, h2.trans h, h'⟩
 ·exact Or.inr ⟨k, h2, Nat.le_trans hs h3⟩
theorem Fr.row {K : SK} {w w1 w2 : World} {v v1 : Value} (h : Fr (XG K v) w w1) (hl : Loc w v v1) (h2 : Fr (XG K v1) w1 w2) : Fr (XG K v) w w2 :=
 ⟨h2.os.trans h.os, h2.tape.trans h.tape, h2.output.trans h.output, Nat.le_trans h.size h2.size, fun k hk hx => by
  rw [h2.block k (Nat.lt_of_lt_of_le hk h.size) ?_, h.block k hk hx]
  rintro (h3 | h3 | h3)
  ·exact hx (Or.inl h3)
  ·exact hx (Or.inr (Or.inl h3))
  ·rcases hl with hl | ⟨k', hl, hk'⟩
   ·exact hx (Or.inr (Or.inr (hl ▸ h3)))
   ·rw [hl] at h3
    cases h3
    omega⟩
end Go.Proofs.YtdlchlbngojljaaDoor.Gl
namespace Go.Proofs.YtdlchlbngojljaaDoor.Gl
open Go.RowKit Go.Maps
theorem info83b : (Tryd.prog.info? 132).map (fun i => (i.zero, i.size, i.bytes)) = some (some (.agg #[.int .i64 0, .int .i64 0]), 2, 16) := by kernel_rfl
theorem row_not_map {w : World} {B : Nat} {t : TypeId} {k n : Nat} {v : Value} {xs : List Value} (h : w.ownsRow B t k v n xs) {M : Nat} {es : Array MapEntry} {cl : Nat} (hm : w.heap[M]? = some (.map es cl)) : v.ownBlock ≠ some M := by
 rcases h.2 with ⟨rfl, _⟩ | ⟨g, cap, cur, rfl, _, hg, _⟩
 ·simp [Value.ownBlock]
 ·intro e
  have : g = M := by simpa [Value.ownBlock] using e
  subst this
  rw [hg] at hm
  cases hm
/-- The places below which nothing of a search is written. -/
structure Low (K : SK) (a b : List El) (B : Nat) : Prop where
 s : K.Sb < B
 a : 0 < a.length → K.ga < B
 b : 0 < b.length → K.gb < B
 t : 0 < B
 m1 : K.M1 < B
 m2 : K.M2 < B
/-- While pairs are gathered. -/
structure GInv (K : SK) (a b : List El) (B i k : Nat) (w : World) (v0 : Value) (S F : List (Nat × Nat)) (v : Value) (W : World) : Prop where
 s : SAt K a b W
 m : LenMap K a b W
 n : SeenMap K a b S W
 row : W.ownsRow B 132 2 v F.length (pairsV F)
 c : W.heap[w.heap.size]? = some (.cells #[.int .i64 i, .int .i64 k] 132 (0, 0))
 fr : Fr (XG K v0) w W
 loc : Loc (w.alloc (.cells #[.int .i64 i, .int .i64 k] 132)) v0 v
 old : ∀ g, v0.ownBlock = some g → g < w.heap.size
 lb : B ≤ w.heap.size
theorem GInv.own {K : SK} {a b : List El} {B i k : Nat} {w : World} {v0 : Value} {S F : List (Nat × Nat)} {v : Value} {W : World} (h : GInv K a b B i k w v0 S F v W) : v.ownBlock ≠ some w.heap.size := by
 intro e
 rcases h.loc with h1 | ⟨g, h1, h2⟩
 ·rw [e] at h1
  have := h.old _ h1.symm
  omega
 ·rw [e] at h1
  cases h1
  simp at h2
  omega
theorem GInv.next {K : SK} {a b : List El} (hA : Apart K a b) {B : Nat} (hL : Low K a b B) {i k : Nat} {w : World} {v0 : Value} {S F : List (Nat × Nat)} {v : Value} {W : World} (h : GInv K a b B i k w v0 S F v W)
  {S' F' : List (Nat × Nat)} {v' : Value} {W' : World} (hf : Fr (XG K v) W W') (hm : LenMap K a b W') (hn : SeenMap K a b S' W') (hr : W'.ownsRow B 132 2 v' F'.length (pairsV F')) (hl : Loc W v v') : GInv K a b B i k w v0 S' F' v' W' := by
 have hown : ∀ x, x < B → v.ownBlock ≠ some x := fun x hx e => by have := (h.row.lt x e).1; omega
 have hx : ∀ x, x < B → x ≠ K.M1 → x ≠ K.M2 → ¬ XG K v x := fun x h1 h2 h3 => by
  rintro (h4 | h4 | h4)
  ·exact h2 h4
  ·exact h3 h4
  ·exact hown x h1 h4
 have hlB := h.lb
 have hsz : w.heap.size < W.heap.size := (Array.getElem?_eq_some_iff.1 h.c).1
 refine ⟨h.s.fr hf (hx _ hL.s hA.s1 hA.s2) (fun h0 => hx _ (hL.a h0) (hA.a1 h0) (hA.a2 h0)) (fun h0 => hx _ (hL.b h0) (hA.b1 h0) (hA.b2 h0)) (hx _ hL.t hA.t1 hA.t2), hm, hn, hr, ?_, ?_, ?_, h.old, h.lb⟩
 ·refine (hf.block _ hsz ?_).trans h.c
  rintro (h4 | h4 | h4)
  ·have := hL.m1; omega
  ·have := hL.m2; omega
  ·exact h.own h4
 ·refine h.fr.row ?_ hf
  rcases h.loc with h1 | ⟨g, h1, h2⟩
  ·exact Or.inl h1
  ·exact Or.inr ⟨g, h1, by simp at h2; omega⟩
 ·exact h.loc.trans (by simp; omega) hl
theorem GInv.below {K : SK} {a b : List El} (hA : Apart K a b) {B : Nat} (hL : Low K a b B) {i k : Nat} {w : World} {v0 : Value} {S F : List (Nat × Nat)} {v : Value} {W W' : World} (h : GInv K a b B i k w v0 S F v W) (hb : Below W.heap.size W W') : GInv K a b B i k w v0 S F v W' :=
 h.next hA hL (Fr.of_below hb) (h.m.below hb) (h.n.kept (hb.block _ h.n.lt)) (ownsRow_below h.row hb) (Loc.refl _ _)
theorem GInv.alloc {K : SK} {a b : List El} (hA : Apart K a b) {B : Nat} (hL : Low K a b B) {i k : Nat} {w : World} {v0 : Value} {S F : List (Nat × Nat)} {v : Value} {W : World} (h : GInv K a b B i k w v0 S F v W) (o : Obj) : GInv K a b B i k w v0 S F v (W.alloc o) := h.below hA hL ((Below.refl _ _).alloc (Nat.le_refl _) o)
theorem row_fr {X : Nat → Prop} {w w' : World} {B : Nat} {t : TypeId} {k n : Nat} {v : Value} {xs : List Value} (h : w.ownsRow B t k v n xs) (hf : Fr X w w') (hx : ∀ g, v.ownBlock = some g → ¬ X g) : w'.ownsRow B t k v n xs := by
 refine ⟨h.1, ?_⟩
 rcases h.2 with h1 | ⟨g, cap, cur, rfl, hB, hg, rest⟩
 ·exact Or.inl h1
 ·exact Or.inr ⟨g, cap, cur, rfl, hB, (hf.block g (Array.getElem?_eq_some_iff.1 hg).1 (hx g rfl)).trans hg, rest⟩
theorem GInv.length {K : SK} {a b : List El} (hA : Apart K a b) {B : Nat} (hL : Low K a b B) {i k : Nat} {w : World} {v0 : Value} {S F : List (Nat × Nat)} {v : Value} {W W' : World} (h : GInv K a b B i k w v0 S F v W) (hf : Fr (· = K.M1) W W') (hm : LenMap K a b W') : GInv K a b B i k w v0 S F v W' :=
 h.next hA hL (hf.mono fun x _ e => Or.inl e) hm (h.n.kept (hf.block _ h.n.lt (fun e => hA.m e.symm))) (row_fr h.row hf fun g hg e => by have := (h.row.lt g hg).1; have := hL.m1; omega) (Loc.refl _ _)
theorem GInv.seen {K : SK} {a b : List El} (hA : Apart K a b) {B : Nat} (hL : Low K a b B) {i k : Nat} {w : World} {v0 : Value} {S F S' : List (Nat × Nat)} {v : Value} {W W' : World} (h : GInv K a b B i k w v0 S F v W) (hf : Fr (· = K.M2) W W') (hn : SeenMap K a b S' W') : GInv K a b B i k w v0 S' F v W' :=
 h.next hA hL (hf.mono fun x _ e => Or.inr (Or.inl e)) (h.m.kept (hf.block _ h.m.lt hA.m)) hn (row_fr h.row hf fun g hg e => by have := (h.row.lt g hg).1; have := hL.m2; omega) (Loc.refl _ _)
theorem GInv.append {K : SK} {a b : List El} (hA : Apart K a b) {B : Nat} (hL : Low K a b B) {i k : Nat} {w : World} {v0 : Value} {S F : List (Nat × Nat)} {v v' : Value} {W w1 : World} {tmp : Obj} {z : Nat × Nat} (h : GInv K a b B i k w v0 S F v W)
  (hown : w1.ownsRow B 132 2 v' (F.length + 1) (pairsV F ++ [.int .i64 (z.1 : Int), .int .i64 (z.2 : Int)])) (hg : (W.alloc tmp).grownBy w1 v.ownBlock) (hl : v'.ownBlock = v.ownBlock ∨ v'.ownBlock = some (W.alloc tmp).heap.size) : GInv K a b B i k w v0 S (F ++ [z]) v' w1 := by
 have hf : Fr (XG K v) W w1 := (Fr.of_below ((Below.refl _ W).alloc (Nat.le_refl _) tmp)).trans (Fr.of_grown hg fun x hx => Or.inr (Or.inr hx))
 have hm1 : v.ownBlock ≠ some K.M1 := fun e => by have := (h.row.lt _ e).1; have := hL.m1; omega
 have hm2 : v.ownBlock ≠ some K.M2 := fun e => by have := (h.row.lt _ e).1; have := hL.m2; omega
 have hb1 := h.m.lt
 have hb2 := h.n.lt
 refine h.next hA hL hf (h.m.kept ?_) (h.n.kept ?_) (by rw [List.length_append, pairsV_snoc]; exact hown) ?_
 ·rw [hg.block _ (by simp; omega) (fun e => hm1 e.symm)]
  exact Below.heap_alloc _ _ _ hb1
 ·rw [hg.block _ (by simp; omega) (fun e => hm2 e.symm)]
  exact Below.heap_alloc _ _ _ hb2
 ·rcases hl with hl | hl
  ·exact Or.inl hl
  ·exact Or.inr ⟨_, hl, by simp⟩
theorem GInv.start {K : SK} {a b : List El} {B : Nat} {i k : Nat} {w : World} {S F : List (Nat × Nat)} {v : Value} (hs : SAt K a b w) (hm : LenMap K a b w) (hn : SeenMap K a b S w) (hr : w.ownsRow B 132 2 v F.length (pairsV F)) (hB : B ≤ w.heap.size) :
  GInv K a b B i k w v S F v (w.alloc (.cells #[.int .i64 i, .int .i64 k] 132)) := by
 have hb : Below w.heap.size w (w.alloc (.cells #[.int .i64 i, .int .i64 k] 132)) := (Below.refl _ _).alloc (Nat.le_refl _) _
 exact ⟨hs.below hb, hm.below hb, hn.kept (hb.block _ hn.lt), ownsRow_below hr hb, heap_alloc_last w _, Fr.of_below hb, Or.inl rfl, fun g hg => (hr.lt g hg).2, hB⟩
/-- What gather leaves. -/
def GPost (K : SK) (a b : List El) (B left i k : Nat) (w : World) (S F : List (Nat × Nat)) (v : Value) (e : Ending) (w' : World) : Prop :=
 ∃ v', e = .returned v' ∧ w'.ownsRow B 132 2 v' (F ++ gatherB a b left S i k).length (pairsV (F ++ gatherB a b left S i k)) ∧ LenMap K a b w' ∧ SeenMap K a b (S ++ gatherB a b left S i k) w' ∧ Fr (XG K v) w w' ∧ Loc w v v'
theorem GInv.done {K : SK} {a b : List El} {B left i k : Nat} {w : World} {v0 : Value} {S F G : List (Nat × Nat)} {v : Value} {W : World} (h : GInv K a b B i k w v0 (S ++ G) (F ++ G) v W) (hG : gatherB a b left S i k = G) : GPost K a b B left i k w S F v0 (.returned v) W := by
 refine ⟨v, rfl, by rw [hG]; exact h.row, h.m, by rw [hG]; exact h.n, h.fr, ?_⟩
 rcases h.loc with h1 | ⟨g, h1, h2⟩
 ·exact Or.inl h1
 ·exact Or.inr ⟨g, h1, by simp at h2; omega⟩
theorem GInv.recur {K : SK} {a b : List El} (hA : Apart K a b) {B : Nat} (hL : Low K a b B) {left i k i' k' : Nat} {w : World} {v0 : Value} {S F : List (Nat × Nat)} {v : Value} {W : World} (h : GInv K a b B i k w v0 S F v W) {e : Ending} {W' : World} (hp : GPost K a b B left i' k' W S F v e W') :
  ∃ v', e = .returned v' ∧ GInv K a b B i k w v0 (S ++ gatherB a b left S i' k') (F ++ gatherB a b left S i' k') v' W' := by
 obtain ⟨v', rfl, hr, hm, hn, hf, hl⟩ := hp
 exact ⟨v', rfl, h.next hA hL hf hm hn hr hl⟩
def GRec (K : SK) (a b : List El) (B left i k : Nat) : Prop := ∀ (i' k' : Nat) (x y : Int) (w : World) (S F : List (Nat × Nat)) (v : Value), x = i' → y = k' → i' ≤ a.length → k' ≤ b.length → i + k < i' + k' → SAt K a b w → LenMap K a b w → SeenMap K a b S w → w.ownsRow B 132 2 v F.length (pairsV F) → B ≤ w.heap.size →
  F.length ≤ S.length → Calls Tryd.prog 74 #[.pointer (some ⟨K.Sb, 0, none⟩), v, .agg #[.int .i64 x, .int .i64 y], .int .i64 left] w (GPost K a b B left i' k' w S F v)
theorem SeenMap.size {K : SK} {a b : List El} {W : World} {S : List (Nat × Nat)} (h : SeenMap K a b S W) (hal : a.length ≤ 4096) (hbl : b.length ≤ 4096) : S.length ≤ 16785409 := by
 obtain ⟨D, hm⟩ := h
 have h1 := grid_size _ _ _ hm.nodup hm.grid
 have h2 : (a.length + 1) * (b.length + 1) ≤ 4097 * 4097 := Nat.mul_le_mul (by omega) (by omega)
 omega
end Go.Proofs.YtdlchlbngojljaaDoor.Gl
namespace Go.Proofs.YtdlchlbngojljaaDoor.Gl
open Go.RowKit Go.Maps
set_option maxHeartbeats 1000000 in
set_option maxRecDepth 100000 in
theorem gather_seen (K : SK) (a b : List El) (B left i k : Nat) (w : World) (S F : List (Nat × Nat)) (v : Value) (hA : Apart K a b) (hL : Low K a b B) (hs : SAt K a b w) (hm : LenMap K a b w) (hn : SeenMap K a b S w) (hr : w.ownsRow B 132 2 v F.length (pairsV F)) (hB : B ≤ w.heap.size) (_hFS : F.length ≤ S.length) (hi : i ≤ a.length) (hk : k ≤ b.length) (hal : a.length ≤ 4096) (hbl : b.length ≤ 4096) (_hleft : left ≤ 1073741824) (hin : (i, k) ∈ S) :
  Calls Tryd.prog 74 #[.pointer (some ⟨K.Sb, 0, none⟩), v, .agg #[.int .i64 i, .int .i64 k], .int .i64 left] w (GPost K a b B left i k w S F v) := by
 have hst := GInv.start (i := i) (k := k) hs hm hn hr hB
 have s3 := cell_of_row _ K.Sb 3 _ _ _ hst.s.blk
 have d0 := cell_of_row _ w.heap.size 0 _ _ _ hst.c
 have d1 := cell_of_row _ w.heap.size 1 _ _ _ hst.c
 simp only [List.getElem?_toArray, List.getElem?_cons_zero, List.getElem?_cons_succ] at s3 d0 d1
 have hlook : ∀ n, (Instr.lookup 127 (.map (some K.M2)) (.agg #[.int .i64 i, .int .i64 k]) false).run Tryd.prog ((w.alloc (.cells #[.int .i64 i, .int .i64 k] 132)).drewN n) = .ok (.bool (decide ((i, k) ∈ S))) ((w.alloc (.cells #[.int .i64 i, .int .i64 k] 132)).drewN n) := fun n => (hst.n.kept (W' := (w.alloc (.cells #[.int .i64 i, .int .i64 k] 132)).drewN n) rfl).look hi hk hal hbl
 have hlook1 : (Instr.lookup 127 (.map (some K.M2)) (.agg #[.int .i64 i, .int .i64 k]) false).run Tryd.prog (w.alloc (.cells #[.int .i64 i, .int .i64 k] 132)).drew = .ok (.bool (decide ((i, k) ∈ S))) (w.alloc (.cells #[.int .i64 i, .int .i64 k] 132)).drew := (hst.n.kept (W' := (w.alloc (.cells #[.int .i64 i, .int .i64 k] 132)).drew) rfl).look hi hk hal hbl
 have Hst := Lib.hid hst
 have HA := Lib.hid hA
 have HL := Lib.hid hL
 rw [decide_eq_true hin] at hlook
 have hG : gatherB a b left S i k = [] := by rw [gatherB_eq, if_pos (Or.inl hin)]
 have HG := Lib.hid hG
 clear hG hst hs hm hn hr hA hL hlook1
 obtain ⟨ao, bo, ca, cb, ga, gb, Sb, M1, M2⟩ := K
 simp only at s3 hlook
 go_enter Tryd.func74, Tryd.ntmps74
 go_wp2
 generalize w.alloc (.cells #[.int .i64 i, .int .i64 k] 132) = W at *
 go_quiet (fail)
 go_wp2
 go_ret
 exact GInv.done (G := []) (by simpa using Hst.out.below HA.out HL.out (drewN_below (Below.refl _ _) nq)) HG.out
set_option maxHeartbeats 1000000 in
set_option maxRecDepth 100000 in
theorem gather_len (K : SK) (a b : List El) (B left i k : Nat) (w : World) (S F : List (Nat × Nat)) (v : Value) (hA : Apart K a b) (hL : Low K a b B) (hs : SAt K a b w) (hm : LenMap K a b w) (hn : SeenMap K a b S w) (hr : w.ownsRow B 132 2 v F.length (pairsV F)) (hB : B ≤ w.heap.size) (_hFS : F.length ≤ S.length) (hi : i ≤ a.length) (hk : k ≤ b.length) (hal : a.length ≤ 4096) (hbl : b.length ≤ 4096) (_hleft : left ≤ 1073741824) (hin : (i, k) ∉ S) (hne : lenP a b i k ≠ left) :
  Calls Tryd.prog 74 #[.pointer (some ⟨K.Sb, 0, none⟩), v, .agg #[.int .i64 i, .int .i64 k], .int .i64 left] w (GPost K a b B left i k w S F v) := by
 have hst := GInv.start (i := i) (k := k) hs hm hn hr hB
 have s3 := cell_of_row _ K.Sb 3 _ _ _ hst.s.blk
 have d0 := cell_of_row _ w.heap.size 0 _ _ _ hst.c
 have d1 := cell_of_row _ w.heap.size 1 _ _ _ hst.c
 simp only [List.getElem?_toArray, List.getElem?_cons_zero, List.getElem?_cons_succ] at s3 d0 d1
 have hlook : ∀ n, (Instr.lookup 127 (.map (some K.M2)) (.agg #[.int .i64 i, .int .i64 k]) false).run Tryd.prog ((w.alloc (.cells #[.int .i64 i, .int .i64 k] 132)).drewN n) = .ok (.bool (decide ((i, k) ∈ S))) ((w.alloc (.cells #[.int .i64 i, .int .i64 k] 132)).drewN n) := fun n => (hst.n.kept (W' := (w.alloc (.cells #[.int .i64 i, .int .i64 k] 132)).drewN n) rfl).look hi hk hal hbl
 have hlook1 : (Instr.lookup 127 (.map (some K.M2)) (.agg #[.int .i64 i, .int .i64 k]) false).run Tryd.prog (w.alloc (.cells #[.int .i64 i, .int .i64 k] 132)).drew = .ok (.bool (decide ((i, k) ∈ S))) (w.alloc (.cells #[.int .i64 i, .int .i64 k] 132)).drew := (hst.n.kept (W' := (w.alloc (.cells #[.int .i64 i, .int .i64 k] 132)).drew) rfl).look hi hk hal hbl
 have Hst := Lib.hid hst
 have HA := Lib.hid hA
 have HL := Lib.hid hL
 have Hlen := Lib.hid (fun W (h1 : SAt K a b W) (h2 : LenMap K a b W) => length_any K a b i k W hA h1 h2 hi hk hal hbl i k rfl rfl)
 rw [decide_eq_false hin] at hlook1
 have hG : gatherB a b left S i k = [] := by rw [gatherB_eq, if_pos (Or.inr hne)]
 have HG := Lib.hid hG
 have hq : ((lenP a b i k : Nat) : Int) ≠ (left : Int) := by omega
 have hq2 : (((lenP a b i k : Nat) : Int) != (left : Int)) = true := by simpa using hq
 obtain ⟨L, hLL⟩ : ∃ L, lenP a b i k = L := ⟨_, rfl⟩
 have hpost : ∀ W e w', LenPost K a b i k W e w' → e = .returned (.int .i64 (L : Nat)) ∧ Fr (· = K.M1) W w' ∧ LenMap K a b w' := fun W e w' h => by obtain ⟨h1, h2, h3⟩ := h; exact ⟨by rw [← hLL]; exact h1, h2, h3⟩
 have Hpost := Lib.hid hpost
 rw [hLL] at hq hq2 hne
 clear hG hst hs hm hn hr hA hL hlook hpost hLL
 obtain ⟨ao, bo, ca, cb, ga, gb, Sb, M1, M2⟩ := K
 simp only at s3 hlook1
 go_enter Tryd.func74, Tryd.ntmps74
 go_wp2
 generalize w.alloc (.cells #[.int .i64 i, .int .i64 k] 132) = W at *
 go_region_with (go_at_call 73; refine (Hlen.out _ (Hst.out.below HA.out HL.out (Below.refl _ _).drew).s (Hst.out.below HA.out HL.out (Below.refl _ _).drew).m).mono ?_; rintro e W2 hp; obtain ⟨rfl, hf2, hm2⟩ := Hpost.out _ _ _ hp; clear hp)
 all_goals
  have L2 := Lib.hid ((Hst.out.below HA.out HL.out (Below.refl _ _).drew).length HA.out HL.out hf2 hm2)
  clear hf2 hm2
  go_wp2
  go_ret
  exact GInv.done (G := []) (by simpa using L2.out) HG.out
end Go.Proofs.YtdlchlbngojljaaDoor.Gl
