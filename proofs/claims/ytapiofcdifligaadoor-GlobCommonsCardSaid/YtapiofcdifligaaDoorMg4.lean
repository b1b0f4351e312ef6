/- gather: the pairs that are reached without a byte. gather: the walks. gather: the walks with stars. -/
import Derived.Test.YtapiofcdifligaaDoorX
namespace Go.Proofs.YtapiofcdifligaaDoor
open Go.RowKit Go.Maps

theorem info83b : (Tryd.prog.info? 83).map (fun i => (i.zero, i.size, i.bytes)) = some (some (.agg #[.int .i64 0, .int .i64 0]), 2, 16) := by kernel_rfl

theorem row_not_map {w : World} {B : Nat} {t : TypeId} {k n : Nat} {v : Value} {xs : List Value} (h : w.ownsRow B t k v n xs) {M : Nat} {es : Array MapEntry} {cl : Nat} (hm : w.heap[M]? = some (.map es cl)) : v.ownBlock ≠ some M := by
  rcases h.2 with ⟨rfl, _⟩ | ⟨g, cap, cur, rfl, _, hg, _⟩
  · simp [Value.ownBlock]
  · intro e
    have : g = M := by simpa [Value.ownBlock] using e
    subst this
    rw [hg] at hm
    cases hm

/-- The places below which nothing of a search is written. -/
structure Low (K : SK) (a b : List El) (B : Nat) : Prop where
  s : K.Sb < B
  a : 0 < a.length → K.ga < B
  b : 0 < b.length → K.gb < B
  t : 1 < B
  m1 : K.M1 < B
  m2 : K.M2 < B

/-- While pairs are gathered. -/
structure GInv (K : SK) (a b : List El) (B i k : Nat) (w : World) (v0 : Value) (S F : List (Nat × Nat)) (v : Value) (W : World) : Prop where
  s : SAt K a b W
  m : LenMap K a b W
  n : SeenMap K a b S W
  row : W.ownsRow B 83 2 v F.length (pairsV F)
  c : W.heap[w.heap.size]? = some (.cells #[.int .i64 i, .int .i64 k] 83 (0, 0))
  fr : Fr (XG K v0) w W
  loc : Loc (w.alloc (.cells #[.int .i64 i, .int .i64 k] 83)) v0 v
  old : ∀ g, v0.ownBlock = some g → g < w.heap.size
  lb : B ≤ w.heap.size

theorem GInv.own {K : SK} {a b : List El} {B i k : Nat} {w : World} {v0 : Value} {S F : List (Nat × Nat)} {v : Value} {W : World} (h : GInv K a b B i k w v0 S F v W) : v.ownBlock ≠ some w.heap.size := by
  intro e
  rcases h.loc with h1 | ⟨g, h1, h2⟩
  · rw [e] at h1
    have := h.old _ h1.symm
    omega
  · rw [e] at h1
    cases h1
    simp at h2
    omega

theorem GInv.next {K : SK} {a b : List El} (hA : Apart K a b) {B : Nat} (hL : Low K a b B) {i k : Nat} {w : World} {v0 : Value} {S F : List (Nat × Nat)} {v : Value} {W : World} (h : GInv K a b B i k w v0 S F v W)
    {S' F' : List (Nat × Nat)} {v' : Value} {W' : World} (hf : Fr (XG K v) W W') (hm : LenMap K a b W') (hn : SeenMap K a b S' W') (hr : W'.ownsRow B 83 2 v' F'.length (pairsV F')) (hl : Loc W v v') : GInv K a b B i k w v0 S' F' v' W' := by
  have hown : ∀ x, x < B → v.ownBlock ≠ some x := fun x hx e => by have := (h.row.lt x e).1; omega
  have hx : ∀ x, x < B → x ≠ K.M1 → x ≠ K.M2 → ¬ XG K v x := fun x h1 h2 h3 => by
    rintro (h4 | h4 | h4)
    · exact h2 h4
    · exact h3 h4
    · exact hown x h1 h4
  have hlB := h.lb
  have hsz : w.heap.size < W.heap.size := (Array.getElem?_eq_some_iff.1 h.c).1
  refine ⟨h.s.fr hf (hx _ hL.s hA.s1 hA.s2) (fun h0 => hx _ (hL.a h0) (hA.a1 h0) (hA.a2 h0)) (fun h0 => hx _ (hL.b h0) (hA.b1 h0) (hA.b2 h0)) (hx _ hL.t hA.t1 hA.t2), hm, hn, hr, ?_, ?_, ?_, h.old, h.lb⟩
  · refine (hf.block _ hsz ?_).trans h.c
    rintro (h4 | h4 | h4)
    · have := hL.m1; omega
    · have := hL.m2; omega
    · exact h.own h4
  · refine h.fr.row ?_ hf
    rcases h.loc with h1 | ⟨g, h1, h2⟩
    · exact Or.inl h1
    · exact Or.inr ⟨g, h1, by simp at h2; omega⟩
  · exact h.loc.trans (by simp; omega) hl

theorem GInv.below {K : SK} {a b : List El} (hA : Apart K a b) {B : Nat} (hL : Low K a b B) {i k : Nat} {w : World} {v0 : Value} {S F : List (Nat × Nat)} {v : Value} {W W' : World} (h : GInv K a b B i k w v0 S F v W) (hb : Below W.heap.size W W') : GInv K a b B i k w v0 S F v W' :=
  h.next hA hL (Fr.of_below hb) (h.m.below hb) (h.n.kept (hb.block _ h.n.lt)) (ownsRow_below h.row hb) (Loc.refl _ _)
theorem GInv.alloc {K : SK} {a b : List El} (hA : Apart K a b) {B : Nat} (hL : Low K a b B) {i k : Nat} {w : World} {v0 : Value} {S F : List (Nat × Nat)} {v : Value} {W : World} (h : GInv K a b B i k w v0 S F v W) (o : Obj) : GInv K a b B i k w v0 S F v (W.alloc o) := h.below hA hL ((Below.refl _ _).alloc (Nat.le_refl _) o)

theorem row_fr {X : Nat → Prop} {w w' : World} {B : Nat} {t : TypeId} {k n : Nat} {v : Value} {xs : List Value} (h : w.ownsRow B t k v n xs) (hf : Fr X w w') (hx : ∀ g, v.ownBlock = some g → ¬ X g) : w'.ownsRow B t k v n xs := by
  refine ⟨h.1, ?_⟩
  rcases h.2 with h1 | ⟨g, cap, cur, rfl, hB, hg, rest⟩
  · exact Or.inl h1
  · exact Or.inr ⟨g, cap, cur, rfl, hB, (hf.block g (Array.getElem?_eq_some_iff.1 hg).1 (hx g rfl)).trans hg, rest⟩

theorem GInv.length {K : SK} {a b : List El} (hA : Apart K a b) {B : Nat} (hL : Low K a b B) {i k : Nat} {w : World} {v0 : Value} {S F : List (Nat × Nat)} {v : Value} {W W' : World} (h : GInv K a b B i k w v0 S F v W) (hf : Fr (· = K.M1) W W') (hm : LenMap K a b W') : GInv K a b B i k w v0 S F v W' :=
  h.next hA hL (hf.mono fun x _ e => Or.inl e) hm (h.n.kept (hf.block _ h.n.lt (fun e => hA.m e.symm))) (row_fr h.row hf fun g hg e => by have := (h.row.lt g hg).1; have := hL.m1; omega) (Loc.refl _ _)
theorem GInv.seen {K : SK} {a b : List El} (hA : Apart K a b) {B : Nat} (hL : Low K a b B) {i k : Nat} {w : World} {v0 : Value} {S F S' : List (Nat × Nat)} {v : Value} {W W' : World} (h : GInv K a b B i k w v0 S F v W) (hf : Fr (· = K.M2) W W') (hn : SeenMap K a b S' W') : GInv K a b B i k w v0 S' F v W' :=
  h.next hA hL (hf.mono fun x _ e => Or.inr (Or.inl e)) (h.m.kept (hf.block _ h.m.lt hA.m)) hn (row_fr h.row hf fun g hg e => by have := (h.row.lt g hg).1; have := hL.m2; omega) (Loc.refl _ _)
theorem GInv.append {K : SK} {a b : List El} (hA : Apart K a b) {B : Nat} (hL : Low K a b B) {i k : Nat} {w : World} {v0 : Value} {S F : List (Nat × Nat)} {v v' : Value} {W w1 : World} {tmp : Obj} {z : Nat × Nat} (h : GInv K a b B i k w v0 S F v W)
    (hown : w1.ownsRow B 83 2 v' (F.length + 1) (pairsV F ++ [.int .i64 (z.1 : Int), .int .i64 (z.2 : Int)])) (hg : (W.alloc tmp).grownBy w1 v.ownBlock) (hl : v'.ownBlock = v.ownBlock ∨ v'.ownBlock = some (W.alloc tmp).heap.size) : GInv K a b B i k w v0 S (F ++ [z]) v' w1 := by
  have hf : Fr (XG K v) W w1 := (Fr.of_below ((Below.refl _ W).alloc (Nat.le_refl _) tmp)).trans (Fr.of_grown hg fun x hx => Or.inr (Or.inr hx))
  have hm1 : v.ownBlock ≠ some K.M1 := fun e => by have := (h.row.lt _ e).1; have := hL.m1; omega
  have hm2 : v.ownBlock ≠ some K.M2 := fun e => by have := (h.row.lt _ e).1; have := hL.m2; omega
  have hb1 := h.m.lt
  have hb2 := h.n.lt
  refine h.next hA hL hf (h.m.kept ?_) (h.n.kept ?_) (by rw [List.length_append, pairsV_snoc]; exact hown) ?_
  · rw [hg.block _ (by simp; omega) (fun e => hm1 e.symm)]
    exact Below.heap_alloc _ _ _ hb1
  · rw [hg.block _ (by simp; omega) (fun e => hm2 e.symm)]
    exact Below.heap_alloc _ _ _ hb2
  · rcases hl with hl | hl
    · exact Or.inl hl
    · exact Or.inr ⟨_, hl, by simp⟩

theorem GInv.start {K : SK} {a b : List El} {B : Nat} {i k : Nat} {w : World} {S F : List (Nat × Nat)} {v : Value} (hs : SAt K a b w) (hm : LenMap K a b w) (hn : SeenMap K a b S w) (hr : w.ownsRow B 83 2 v F.length (pairsV F)) (hB : B ≤ w.heap.size) :
    GInv K a b B i k w v S F v (w.alloc (.cells #[.int .i64 i, .int .i64 k] 83)) := by
  have hb : Below w.heap.size w (w.alloc (.cells #[.int .i64 i, .int .i64 k] 83)) := (Below.refl _ _).alloc (Nat.le_refl _) _
  exact ⟨hs.below hb, hm.below hb, hn.kept (hb.block _ hn.lt), ownsRow_below hr hb, heap_alloc_last w _, Fr.of_below hb, Or.inl rfl, fun g hg => (hr.lt g hg).2, hB⟩

/-- What gather leaves. -/
def GPost (K : SK) (a b : List El) (B left i k : Nat) (w : World) (S F : List (Nat × Nat)) (v : Value) (e : Ending) (w' : World) : Prop :=
  ∃ v', e = .returned v' ∧ w'.ownsRow B 83 2 v' (F ++ gatherB a b left S i k).length (pairsV (F ++ gatherB a b left S i k)) ∧ LenMap K a b w' ∧ SeenMap K a b (S ++ gatherB a b left S i k) w' ∧ Fr (XG K v) w w' ∧ Loc w v v'

theorem GInv.done {K : SK} {a b : List El} {B left i k : Nat} {w : World} {v0 : Value} {S F G : List (Nat × Nat)} {v : Value} {W : World} (h : GInv K a b B i k w v0 (S ++ G) (F ++ G) v W) (hG : gatherB a b left S i k = G) : GPost K a b B left i k w S F v0 (.returned v) W := by
  refine ⟨v, rfl, by rw [hG]; exact h.row, h.m, by rw [hG]; exact h.n, h.fr, ?_⟩
  rcases h.loc with h1 | ⟨g, h1, h2⟩
  · exact Or.inl h1
  · exact Or.inr ⟨g, h1, by simp at h2; omega⟩

theorem GInv.recur {K : SK} {a b : List El} (hA : Apart K a b) {B : Nat} (hL : Low K a b B) {left i k i' k' : Nat} {w : World} {v0 : Value} {S F : List (Nat × Nat)} {v : Value} {W : World} (h : GInv K a b B i k w v0 S F v W) {e : Ending} {W' : World} (hp : GPost K a b B left i' k' W S F v e W') :
    ∃ v', e = .returned v' ∧ GInv K a b B i k w v0 (S ++ gatherB a b left S i' k') (F ++ gatherB a b left S i' k') v' W' := by
  obtain ⟨v', rfl, hr, hm, hn, hf, hl⟩ := hp
  exact ⟨v', rfl, h.next hA hL hf hm hn hr hl⟩

def GRec (K : SK) (a b : List El) (B left i k : Nat) : Prop := ∀ (i' k' : Nat) (x y : Int) (w : World) (S F : List (Nat × Nat)) (v : Value), x = i' → y = k' → i' ≤ a.length → k' ≤ b.length → i + k < i' + k' → SAt K a b w → LenMap K a b w → SeenMap K a b S w → w.ownsRow B 83 2 v F.length (pairsV F) → B ≤ w.heap.size →
    F.length ≤ S.length → Calls Tryd.prog 53 #[.pointer (some ⟨K.Sb, 0, none⟩), v, .agg #[.int .i64 x, .int .i64 y], .int .i64 left] w (GPost K a b B left i' k' w S F v)


theorem SeenMap.size {K : SK} {a b : List El} {W : World} {S : List (Nat × Nat)} (h : SeenMap K a b S W) (hal : a.length ≤ 4096) (hbl : b.length ≤ 4096) : S.length ≤ 16785409 := by
  obtain ⟨D, hm⟩ := h
  have h1 := grid_size _ _ _ hm.nodup hm.grid
  have h2 : (a.length + 1) * (b.length + 1) ≤ 4097 * 4097 := Nat.mul_le_mul (by omega) (by omega)
  omega

end Go.Proofs.YtapiofcdifligaaDoor

namespace Go.Proofs.YtapiofcdifligaaDoor
open Go.RowKit Go.Maps

set_option maxHeartbeats 1000000 in
set_option maxRecDepth 100000 in
theorem gather_seen (K : SK) (a b : List El) (B left i k : Nat) (w : World) (S F : List (Nat × Nat)) (v : Value) (hA : Apart K a b) (hL : Low K a b B) (hs : SAt K a b w) (hm : LenMap K a b w) (hn : SeenMap K a b S w) (hr : w.ownsRow B 83 2 v F.length (pairsV F)) (hB : B ≤ w.heap.size) (_hFS : F.length ≤ S.length) (hi : i ≤ a.length) (hk : k ≤ b.length) (hal : a.length ≤ 4096) (hbl : b.length ≤ 4096) (_hleft : left ≤ 1073741824) (hin : (i, k) ∈ S) :
    Calls Tryd.prog 53 #[.pointer (some ⟨K.Sb, 0, none⟩), v, .agg #[.int .i64 i, .int .i64 k], .int .i64 left] w (GPost K a b B left i k w S F v) := by
  have hst := GInv.start (i := i) (k := k) hs hm hn hr hB
  have s3 := cell_of_row _ K.Sb 3 _ _ _ hst.s.blk
  have d0 := cell_of_row _ w.heap.size 0 _ _ _ hst.c
  have d1 := cell_of_row _ w.heap.size 1 _ _ _ hst.c
  simp only [List.getElem?_toArray, List.getElem?_cons_zero, List.getElem?_cons_succ] at s3 d0 d1
  have hlook : ∀ n, (Instr.lookup 78 (.map (some K.M2)) (.agg #[.int .i64 i, .int .i64 k]) false).run Tryd.prog ((w.alloc (.cells #[.int .i64 i, .int .i64 k] 83)).drewN n) = .ok (.bool (decide ((i, k) ∈ S))) ((w.alloc (.cells #[.int .i64 i, .int .i64 k] 83)).drewN n) := fun n => (hst.n.kept (W' := (w.alloc (.cells #[.int .i64 i, .int .i64 k] 83)).drewN n) rfl).look hi hk hal hbl
  have hlook1 : (Instr.lookup 78 (.map (some K.M2)) (.agg #[.int .i64 i, .int .i64 k]) false).run Tryd.prog (w.alloc (.cells #[.int .i64 i, .int .i64 k] 83)).drew = .ok (.bool (decide ((i, k) ∈ S))) (w.alloc (.cells #[.int .i64 i, .int .i64 k] 83)).drew := (hst.n.kept (W' := (w.alloc (.cells #[.int .i64 i, .int .i64 k] 83)).drew) rfl).look hi hk hal hbl
  have Hst := Lib.hid hst
  have HA := Lib.hid hA
  have HL := Lib.hid hL
  rw [decide_eq_true hin] at hlook
  have hG : gatherB a b left S i k = [] := by rw [gatherB_eq, if_pos (Or.inl hin)]
  have HG := Lib.hid hG
  clear hG hst hs hm hn hr hA hL hlook1
  obtain ⟨ao, bo, ca, cb, ga, gb, Sb, M1, M2⟩ := K
  simp only at s3 hlook
  go_enter Tryd.func53, Tryd.ntmps53
  go_wp2
  generalize w.alloc (.cells #[.int .i64 i, .int .i64 k] 83) = W at *
  go_quiet (fail)
  go_wp2
  go_ret
  exact GInv.done (G := []) (by simpa using Hst.out.below HA.out HL.out (drewN_below (Below.refl _ _) nq)) HG.out

set_option maxHeartbeats 1000000 in
set_option maxRecDepth 100000 in
theorem gather_len (K : SK) (a b : List El) (B left i k : Nat) (w : World) (S F : List (Nat × Nat)) (v : Value) (hA : Apart K a b) (hL : Low K a b B) (hs : SAt K a b w) (hm : LenMap K a b w) (hn : SeenMap K a b S w) (hr : w.ownsRow B 83 2 v F.length (pairsV F)) (hB : B ≤ w.heap.size) (_hFS : F.length ≤ S.length) (hi : i ≤ a.length) (hk : k ≤ b.length) (hal : a.length ≤ 4096) (hbl : b.length ≤ 4096) (_hleft : left ≤ 1073741824) (hin : (i, k) ∉ S) (hne : lenP a b i k ≠ left) :
    Calls Tryd.prog 53 #[.pointer (some ⟨K.Sb, 0, none⟩), v, .agg #[.int .i64 i, .int .i64 k], .int .i64 left] w (GPost K a b B left i k w S F v) := by
  have hst := GInv.start (i := i) (k := k) hs hm hn hr hB
  have s3 := cell_of_row _ K.Sb 3 _ _ _ hst.s.blk
  have d0 := cell_of_row _ w.heap.size 0 _ _ _ hst.c
  have d1 := cell_of_row _ w.heap.size 1 _ _ _ hst.c
  simp only [List.getElem?_toArray, List.getElem?_cons_zero, List.getElem?_cons_succ] at s3 d0 d1
  have hlook : ∀ n, (Instr.lookup 78 (.map (some K.M2)) (.agg #[.int .i64 i, .int .i64 k]) false).run Tryd.prog ((w.alloc (.cells #[.int .i64 i, .int .i64 k] 83)).drewN n) = .ok (.bool (decide ((i, k) ∈ S))) ((w.alloc (.cells #[.int .i64 i, .int .i64 k] 83)).drewN n) := fun n => (hst.n.kept (W' := (w.alloc (.cells #[.int .i64 i, .int .i64 k] 83)).drewN n) rfl).look hi hk hal hbl
  have hlook1 : (Instr.lookup 78 (.map (some K.M2)) (.agg #[.int .i64 i, .int .i64 k]) false).run Tryd.prog (w.alloc (.cells #[.int .i64 i, .int .i64 k] 83)).drew = .ok (.bool (decide ((i, k) ∈ S))) (w.alloc (.cells #[.int .i64 i, .int .i64 k] 83)).drew := (hst.n.kept (W' := (w.alloc (.cells #[.int .i64 i, .int .i64 k] 83)).drew) rfl).look hi hk hal hbl
  have Hst := Lib.hid hst
  have HA := Lib.hid hA
  have HL := Lib.hid hL
  have Hlen := Lib.hid (fun W (h1 : SAt K a b W) (h2 : LenMap K a b W) => length_any K a b i k W hA h1 h2 hi hk hal hbl i k rfl rfl)
  rw [decide_eq_false hin] at hlook1
  have hG : gatherB a b left S i k = [] := by rw [gatherB_eq, if_pos (Or.inr hne)]
  have HG := Lib.hid hG
  have hq : ((lenP a b i k : Nat) : Int) ≠ (left : Int) := by omega
  have hq2 : (((lenP a b i k : Nat) : Int) != (left : Int)) = true := by simpa using hq
  obtain ⟨L, hLL⟩ : ∃ L, lenP a b i k = L := ⟨_, rfl⟩
  have hpost : ∀ W e w', LenPost K a b i k W e w' → e = .returned (.int .i64 (L : Nat)) ∧ Fr (· = K.M1) W w' ∧ LenMap K a b w' := fun W e w' h => by obtain ⟨h1, h2, h3⟩ := h; exact ⟨by rw [← hLL]; exact h1, h2, h3⟩
  have Hpost := Lib.hid hpost
  rw [hLL] at hq hq2 hne
  clear hG hst hs hm hn hr hA hL hlook hpost hLL
  obtain ⟨ao, bo, ca, cb, ga, gb, Sb, M1, M2⟩ := K
  simp only at s3 hlook1
  go_enter Tryd.func53, Tryd.ntmps53
  go_wp2
  generalize w.alloc (.cells #[.int .i64 i, .int .i64 k] 83) = W at *
  go_region_with (go_at_call 52; refine (Hlen.out _ (Hst.out.below HA.out HL.out (Below.refl _ _).drew).s (Hst.out.below HA.out HL.out (Below.refl _ _).drew).m).mono ?_; rintro e W2 hp; obtain ⟨rfl, hf2, hm2⟩ := Hpost.out _ _ _ hp; clear hp)
  all_goals
    have L2 := Lib.hid ((Hst.out.below HA.out HL.out (Below.refl _ _).drew).length HA.out HL.out hf2 hm2)
    clear hf2 hm2
    go_wp2
    go_ret
    exact GInv.done (G := []) (by simpa using L2.out) HG.out

end Go.Proofs.YtapiofcdifligaaDoor

namespace Go.Proofs.YtapiofcdifligaaDoor
open Go.RowKit Go.Maps

set_option maxHeartbeats 2000000 in
set_option maxRecDepth 100000 in
theorem gather_nn (K : SK) (a b : List El) (B left i k : Nat) (w : World) (S F : List (Nat × Nat)) (v : Value) (hA : Apart K a b) (hL : Low K a b B) (hs : SAt K a b w) (hm : LenMap K a b w) (hn : SeenMap K a b S w) (hr : w.ownsRow B 83 2 v F.length (pairsV F)) (hB : B ≤ w.heap.size) (hFS : F.length ≤ S.length) (hi : i ≤ a.length) (hk : k ≤ b.length) (hal : a.length ≤ 4096) (hbl : b.length ≤ 4096) (_hleft : left ≤ 1073741824) (hin : (i, k) ∉ S) (heq : lenP a b i k = left) (hrec : GRec K a b B left i k) (hsa : starAt a i = false) (hsb : starAt b k = false) :
    Calls Tryd.prog 53 #[.pointer (some ⟨K.Sb, 0, none⟩), v, .agg #[.int .i64 i, .int .i64 k], .int .i64 left] w (GPost K a b B left i k w S F v) := by
  obtain ⟨i0, hi0, hz0, hz1, hz2⟩ := info_parts info83b
  have hst := GInv.start (i := i) (k := k) hs hm hn hr hB
  have s3 := cell_of_row _ K.Sb 3 _ _ _ hst.s.blk
  have d0 := cell_of_row _ w.heap.size 0 _ _ _ hst.c
  have d1 := cell_of_row _ w.heap.size 1 _ _ _ hst.c
  simp only [List.getElem?_toArray, List.getElem?_cons_zero, List.getElem?_cons_succ] at s3 d0 d1
  have hlook : ∀ n, (Instr.lookup 78 (.map (some K.M2)) (.agg #[.int .i64 i, .int .i64 k]) false).run Tryd.prog ((w.alloc (.cells #[.int .i64 i, .int .i64 k] 83)).drewN n) = .ok (.bool (decide ((i, k) ∈ S))) ((w.alloc (.cells #[.int .i64 i, .int .i64 k] 83)).drewN n) := fun n => (hst.n.kept (W' := (w.alloc (.cells #[.int .i64 i, .int .i64 k] 83)).drewN n) rfl).look hi hk hal hbl
  have hlook1 : (Instr.lookup 78 (.map (some K.M2)) (.agg #[.int .i64 i, .int .i64 k]) false).run Tryd.prog (w.alloc (.cells #[.int .i64 i, .int .i64 k] 83)).drew = .ok (.bool (decide ((i, k) ∈ S))) (w.alloc (.cells #[.int .i64 i, .int .i64 k] 83)).drew := (hst.n.kept (W' := (w.alloc (.cells #[.int .i64 i, .int .i64 k] 83)).drew) rfl).look hi hk hal hbl
  have Hst := Lib.hid hst
  have HA := Lib.hid hA
  have HL := Lib.hid hL
  have Hlen := Lib.hid (fun W (h1 : SAt K a b W) (h2 : LenMap K a b W) => length_any K a b i k W hA h1 h2 hi hk hal hbl i k rfl rfl)
  rw [decide_eq_false hin] at hlook1
  have hG : gatherB a b left S i k = (i, k) :: ([] ++ []) := by
    rw [gatherB_eq, if_neg (by rw [not_or]; exact ⟨hin, fun h => h heq⟩)]
    simp only [hsa, hsb, Bool.false_eq_true, if_false]
  have HG := Lib.hid hG
  have hpost : ∀ W e w', LenPost K a b i k W e w' → e = .returned (.int .i64 (left : Nat)) ∧ Fr (· = K.M1) W w' ∧ LenMap K a b w' := fun W e w' h => by obtain ⟨h1, h2, h3⟩ := h; exact ⟨by rw [← heq]; exact h1, h2, h3⟩
  have Hpost := Lib.hid hpost
  have hq : (((left : Nat) : Int) != ((left : Nat) : Int)) = false := by simp
  have Hrec := Lib.hid hrec
  have Hstore := Lib.hid (fun W (h : SeenMap K a b S W) => SeenMap.store h hi hk hal hbl hin)
  have Hours := Lib.hid (fun W (h : SAt K a b W) => skipOurs_any K a b i k W h (by omega) (by omega) hal)
  have Htheirs := Lib.hid (fun W (h : SAt K a b W) => skipTheirs_any K a b i k W h (by omega) (by omega) hbl)
  simp only [hsa] at Hours
  simp only [hsb] at Htheirs
  have hii : (i : Int) ≤ 4096 := by omega
  have hki : (k : Int) ≤ 4096 := by omega
  have hssz := hn.size hal hbl
  clear hG hst hs hm hn hr hA hL hlook hpost hrec hin heq hsa hsb
  obtain ⟨ao, bo, ca, cb, ga, gb, Sb, M1, M2⟩ := K
  simp only at s3 hlook1
  go_enter Tryd.func53, Tryd.ntmps53
  go_wp2
  generalize w.alloc (.cells #[.int .i64 i, .int .i64 k] 83) = W at *
  go_region_with (go_at_call 52; refine (Hlen.out _ (Hst.out.below HA.out HL.out (Below.refl _ _).drew).s (Hst.out.below HA.out HL.out (Below.refl _ _).drew).m).mono ?_; rintro e W2 hp; obtain ⟨rfl, hf2, hm2⟩ := Hpost.out _ _ _ hp; clear hp)
  all_goals
    have L2 := Lib.hid (((Hst.out.below HA.out HL.out (Below.refl _ _).drew).length HA.out HL.out hf2 hm2).below HA.out HL.out (Below.refl _ _).drew)
    clear hf2 hm2 hlook1 s3 d0 d1
    go_wp2
    obtain ⟨w3, hrun, hn3, hf3⟩ := Hstore.out _ L2.out.n
    have L3 := Lib.hid (L2.out.seen HA.out HL.out hf3 hn3)
    have s3 : W2.cell? ⟨Sb, 3, none⟩ = _ := cell_of_row _ Sb 3 _ _ _ L2.out.s.blk
    have d0 : W2.cell? ⟨w.heap.size, 0, none⟩ = _ := cell_of_row _ w.heap.size 0 _ _ _ L2.out.c
    have d1 : W2.cell? ⟨w.heap.size, 1, none⟩ = _ := cell_of_row _ w.heap.size 1 _ _ _ L2.out.c
    simp only [List.getElem?_toArray, List.getElem?_cons_zero, List.getElem?_cons_succ] at s3 d0 d1
    clear hn3 hf3
    have e0 : w3.cell? ⟨w.heap.size, 0, none⟩ = _ := cell_of_row _ w.heap.size 0 _ _ _ L3.out.c
    have e1 : w3.cell? ⟨w.heap.size, 1, none⟩ = _ := cell_of_row _ w.heap.size 1 _ _ _ L3.out.c
    simp only [List.getElem?_toArray, List.getElem?_cons_zero, List.getElem?_cons_succ] at e0 e1
    go_region
    all_goals
      clear hrun s3 d0 d1 L2
      have d0 := e0
      have d1 := e1
      clear e0 e1
      have hBw := Nat.le_trans L3.out.lb L3.out.fr.size
      go_wp2_with (at_builtin; refine wpList_append_own_at _ rfl _ _ 84 rfl B 83 i0 _ 2 16 Tryd.underlying84 hi0 hz0 hz1 hz2 rfl (by decide) _ _ _ rfl (L3.out.row.alloc _) ⟨w3.heap.size, 0, none⟩ 1 1 [.int .i64 (i : Int), .int .i64 (k : Int)] rfl rfl (cell_six_new _ _ _) (by simp [Value.oneCell']) (by unfold maxLen; omega) (by omega) (by simp; omega) ?_; intro v1 w4 hown hgrow _ hloc; have L4 := Lib.hid (L3.out.append HA.out HL.out (z := (i, k)) hown hgrow hloc); clear hown hgrow hloc d0 d1 L3; have d0 := cell_of_row _ w.heap.size 0 _ _ _ L4.out.c; have d1 := cell_of_row _ w.heap.size 1 _ _ _ L4.out.c; simp only [List.getElem?_toArray, List.getElem?_cons_zero, List.getElem?_cons_succ] at d0 d1)
      refine (Hours.out _ L4.out.s).mono ?_
      rintro e V1 ⟨rfl, hb1⟩
      have L5 := Lib.hid ((L4.out.below HA.out HL.out hb1).alloc HA.out HL.out (.cells #[.int .i64 ((i : Int) + 1), .int .i64 k] 83))
      clear d0 d1 L4 hb1
      have d0 := cell_of_row _ w.heap.size 0 _ _ _ L5.out.c
      have d1 := cell_of_row _ w.heap.size 1 _ _ _ L5.out.c
      simp only [List.getElem?_toArray, List.getElem?_cons_zero, List.getElem?_cons_succ] at d0 d1
      go_wp2_with fail
      refine (Htheirs.out _ L5.out.s).mono ?_
      rintro e V3 ⟨rfl, hb3⟩
      have L7 := Lib.hid ((L5.out.below HA.out HL.out hb3).alloc HA.out HL.out (.cells #[.int .i64 i, .int .i64 ((k : Int) + 1)] 83))
      clear d0 d1 L5 hb3
      have d0 := cell_of_row _ w.heap.size 0 _ _ _ L7.out.c
      have d1 := cell_of_row _ w.heap.size 1 _ _ _ L7.out.c
      simp only [List.getElem?_toArray, List.getElem?_cons_zero, List.getElem?_cons_succ] at d0 d1
      go_wp2
      go_ret
      exact GInv.done (by simpa [List.append_assoc] using L7.out) HG.out

end Go.Proofs.YtapiofcdifligaaDoor
