/- Insert of the reference on lists; appends of rows of devices. Insert of the reference. -/
import Derived.Test.YtldcediiobfhiaaGreatDoorQU1
import Derived.Test.YtldcediiobfhiaaGreatDoorQRk
import Derived.Test.YtldcediiobfhiaaGreatDoorQGG
import Derived.Test.YtldcediiobfhiaaGreatDoorQDf
namespace Go.Proofs.YtldcediiobfhiaaGreatDoor
open Go.RowKit
/-- A slice that is nil, or a row of devices. -/
def DAny (W : World) (v : Value) (l : List De.DV) : Prop := (v = .slice none 0 0 ∧ l = []) ∨ ∃ g o c, v = .slice (some ⟨g, o, none⟩) l.length c ∧ l.length ≤ c ∧ g < W.heap.size ∧ De.DRow W g o l
theorem DAny.has {W : World} {v : Value} {l : List De.DV} (h : DAny W v l) : De.DHas W v l := h.elim (fun ⟨a, b⟩ => .inl ⟨none, 0, a, b⟩) .inr
theorem DAny.below {W W' : World} {v : Value} {l : List De.DV} (h : DAny W v l) (hb : Below W.heap.size W W') : DAny W' v l := by
 rcases h with h | ⟨g, o, c, hv, hc, hg, hr⟩
 ·exact .inl h
 ·exact .inr ⟨g, o, c, hv, hc, Nat.lt_of_lt_of_le hg hb.size, hr.below hg hb⟩
theorem DAny.kp {W W' : World} {v : Value} {l : List De.DV} (h : DAny W v l) (hk : Kp [] W W') : DAny W' v l := h.below hk.bel
theorem DOwn.any {W : World} {B : Nat} {v : Value} {l : List De.DV} (h : De.DOwn W B v l) : DAny W v l := by
 rcases h.row.2 with ⟨hv, hn⟩ | ⟨g, cap, cur, hv, hB, hh, hc, _⟩
 ·exact .inl ⟨hv, List.length_eq_zero_iff.1 hn⟩
 ·rcases h.has with ⟨a, c, hv2, hl⟩ | ⟨g2, o2, c2, hv2, hc2, hg2, hr2⟩
  ·subst hl
   exact .inr ⟨g, 0, cap, hv, hc, block_lt hh, ⟨fun j x hx => by simp at hx, fun x hx => by cases hx⟩⟩
  ·exact .inr ⟨g2, o2, c2, hv2, hc2, hg2, hr2⟩
theorem DRow.take {W : World} {g o : Nat} {l : List De.DV} (h : De.DRow W g o l) (k : Nat) : De.DRow W g o (l.take k) :=
 ⟨fun j x hx => h.at_ j x (by
  rw [List.getElem?_take] at hx
  split at hx
  ·exact hx
  ·cases hx), fun x hx => h.ats x (List.mem_of_mem_take hx)⟩
theorem DRow.drop {W : World} {g o : Nat} {l : List De.DV} (h : De.DRow W g o l) (k : Nat) : De.DRow W g (o + k * 10) (l.drop k) :=
 ⟨fun j x hx => by
  rw [List.getElem?_drop] at hx
  have := h.at_ (k + j) x hx
  rwa [show o + (k + j) * 10 = o + k * 10 + j * 10 by omega] at this, fun x hx => h.ats x (List.mem_of_mem_drop hx)⟩
theorem run_append_dvs {w : World} {base : Nat} {v y : Value} {xs ys : List De.DV} {ty : TypeId} (hown : w.ownsRow base 34 10 v xs.length (De.dvsC xs)) (hy : De.DHas w y ys) (h1 : xs.length + ys.length ≤ 100000) (hb : base ≤ w.heap.size) :
  ∃ v' w', (Builtin.append_ #[22, 22] ty #[v, y]).run Tryz.prog w = .ok v' w' ∧ w'.ownsRow base 34 10 v' (xs ++ ys).length (De.dvsC (xs ++ ys)) ∧ w.grownBy w' v.ownBlock := by
 obtain ⟨i0, hi0, hz0, hz1, hz2⟩ := info_parts De.info34
 rw [List.length_append, De.dvsC_append]
 have hsome : ∀ (ad : Addr) (c : Nat), (∀ j u, (De.dvsC ys)[j]? = some u → w.cell? (ad.add j) = some u) → (∀ u ∈ De.dvsC ys, u.oneCell' = true) → ∃ v' w', (Builtin.append_ #[22, 22] ty #[v, .slice (some ad) ys.length c]).run Tryz.prog w = .ok v' w' ∧ w'.ownsRow base 34 10 v' (xs.length + ys.length) (De.dvsC xs ++ De.dvsC ys) ∧ w.grownBy w' v.ownBlock := fun ad c hc h1' => by
  obtain ⟨v', w', r0, r1, r2, _⟩ := run_append_own (P := Tryz.prog) w base 22 ty 34 i0 _ 10 136 Tryz.underlying22 hi0 hz0 hz1 hz2 rfl (by decide) v xs.length _ hown ad ys.length c (De.dvsC ys) (De.dvsC_len ys) hc h1' (by unfold maxLen; omega) (by omega) hb
  exact ⟨v', w', r0, r1, r2⟩
 rcases hy with ⟨ad, c, rfl, rfl⟩ | ⟨g, o, c, rfl, hcap, hgb, hr⟩
 ·cases ad with
  | none =>
   have hv : ∃ a n k, v = .slice a n k ∧ n ≤ k := by
    rcases hown.2 with ⟨hv, _⟩ | ⟨g, cap, cur, hv, _, _, hc, _⟩
    ·exact ⟨_, _, _, hv, Nat.le_refl _⟩
    ·exact ⟨_, _, _, hv, hc⟩
   obtain ⟨a, n, k, rfl, hnk⟩ := hv
   refine ⟨_, w, run_append_nothing w 22 22 ty 34 i0 Tryz.underlying22 hi0 _ _ _ hnk _ (Src.ofNil w Tryz.underlying22 c), ?_, World.grownBy.refl _ _⟩
   have : De.dvsC xs ++ De.dvsC [] = De.dvsC xs := by simp [De.dvsC]
   rw [this]
   exact hown
  | some ad => exact hsome ad c (fun j u hj => by simp [De.dvsC] at hj) (fun u hu => by simp [De.dvsC] at hu)
 ·exact hsome _ c (fun j u hj => hr.cells j u hj) (De.dvsC_one hr.ats)
def nodA (a : De.ADev) : Option (List UInt8) := if De.hasN a.kind then some (De.nodeOf a.orig).data.toList else none
def clA : De.ADev → De.ADev → Bool := De.clB nodA benB
def vDev (a : De.ADev) : De.Dev := De.devOf a (.slice none 0 0)
def sndA (a : De.ADev) : Bool := decide (De.checkE (vDev a) a.ats = 0)
def aOf (d : De.Dev) (la : List De.Atr) : De.ADev := ⟨d.idx, d.par, d.name, d.orig, d.sub, d.drv, d.ali, d.kind, d.num, la⟩
theorem str_dec (a b : ByteArray) : (a.toList == b.toList) = decide (a = b) := by
 rw [Lib.toList_data, Lib.toList_data]
 by_cases h : a = b
 ·subst h
  simp
 ·rw [decide_eq_false h]
  refine beq_eq_false_iff_ne.2 fun e => h ?_
  rw [← bs_of a, ← bs_of b, e]
theorem lst_dec (a b : ByteArray) : (a.toList == b.toList) = decide (a.data.toList = b.data.toList) := by
 rw [Lib.toList_data, Lib.toList_data]
 by_cases h : a.data.toList = b.data.toList
 ·rw [h]
  simp
 ·rw [decide_eq_false h]
  exact beq_eq_false_iff_ne.2 h
theorem clash_cl (x : De.DV) (d : De.Dev) (la : List De.Atr) : clashD (De.devOf x.1 x.2) d = clA x.1 (aOf d la) := by
 unfold clashD clA De.clB nodA
 rw [str_dec, lst_dec]
 simp only [De.devOf, aOf]
 have key : ∀ (p q r : Bool) (A B : List UInt8), ((x.1.kind == 4 && (d.kind == 4 && decide (x.1.name = d.name))) || (p && (q && (r || (decide (A = B) || (benB A B || benB B A)))))) = ((x.1.kind == 4 && (d.kind == 4 && decide (x.1.name = d.name))) || match (if p = true then some A else none : Option (List UInt8)), (if q = true then some B else none : Option (List UInt8)) with
   | some s, some u => r || (decide (s = u) || (benB s u || benB u s))
   | _, _ => false) := fun p q r A B => by cases p <;> cases q <;> simp
 exact key _ _ _ _ _
theorem clA_symm (a b : De.ADev) : clA a b = clA b a := De.clB_symm _ _ a b
/-- The error of Insert. -/
def insT (l : List De.ADev) (d : De.ADev) : Int :=
 if sndA d = false then 41 else if (De.fnd l d.idx).isSome then 44 else if d.par ≠ 0 ∧ De.fnd l d.par = none then 42
 else if 256 ≤ l.length then 40 else if 7 < (De.org l d).length then 46 else if l.any (fun e => De.org l e == De.org l d || clA e d) then 44 else 0
theorem insT_insE {l : List De.ADev} {d : De.ADev} : insT l d = 0 ↔ De.insE sndA clA l d = 0 := by
 unfold insT De.insE
 repeat' split
 all_goals simp_all
theorem snd_num {d : De.ADev} (h : sndA d = true) : d.idx ≠ 0 ∧ d.par ≠ d.idx := by
 have hc : De.checkE (vDev d) d.ats = 0 := of_decide_eq_true h
 unfold De.checkE at hc
 split at hc
 ·cases hc
 ·rename_i h1
  have h1 : De.placeB (vDev d) = true := by simpa using h1
  unfold De.placeB De.isNum at h1
  simp only [Bool.and_eq_true, decide_eq_true_eq, Bool.not_eq_true', beq_eq_false_iff_ne] at h1
  refine ⟨?_, h1.2.2⟩
  have := h1.1.1
  have e : (vDev d).idx = d.idx := rfl
  omega
theorem insT_fits {l : List De.ADev} {d : De.ADev} (h : insT l d = 0) : De.Fits sndA clA l d := (De.insE_fits fun _ h => snd_num h).1 (insT_insE.1 h)
theorem insT_valid {l : List De.ADev} {d : De.ADev} (hv : De.Valid sndA clA l) (h : insT l d = 0) : De.Valid sndA clA (De.insL l d) := hv.ins clA_symm (insT_fits h)
theorem up_map (l : List De.DV) (n : Int) : orgL l n = ((De.ups (l.map (·.1)) n).map fun x => x.orig.data.toList).reverse := by
 unfold orgL De.ups
 rw [List.length_map, ← De.upD_fst, List.map_map]
 rfl
theorem orgL_org {l : List De.DV} (ht : De.Tidy (l.map (·.1))) {i : Nat} {x : De.DV} (hx : l[i]? = some x) : orgL l x.1.idx = De.org (l.map (·.1)) x.1 := by
 rw [up_map, De.ups_of ht (i := i) (d := x.1) (by rw [List.getElem?_map, hx]; rfl)]
 rfl
theorem own_org (l : List De.DV) (d : De.Dev) (la : List De.Atr) : orgL l d.par ++ [d.orig.data.toList] = De.org (l.map (·.1)) (aOf d la) := by
 rw [up_map]
 unfold De.org
 rw [List.map_cons, List.reverse_cons]
 rfl
theorem placeL_take (l : List De.ADev) (d : De.ADev) : De.insL l d = l.take (De.placeL l (De.org l d)) ++ d :: l.drop (De.placeL l (De.org l d)) := by
 unfold De.insL De.placeL
 generalize (fun e => decide (De.cmpN (De.org l e) (De.org l d) < 0)) = p
 have h : l.takeWhile p ++ l.dropWhile p = l := List.takeWhile_append_dropWhile
 conv => rhs; rw [← h]
 have e : ((l.takeWhile p ++ l.dropWhile p).takeWhile p).length = (l.takeWhile p).length := by rw [h]
 rw [e, List.take_left, List.drop_left]
/-- The list behind Insert. -/
def insD (l : List De.DV) (x : De.DV) : List De.DV := l.take (De.placeL (l.map (·.1)) (De.org (l.map (·.1)) x.1)) ++ x :: l.drop (De.placeL (l.map (·.1)) (De.org (l.map (·.1)) x.1))
theorem insD_fst (l : List De.DV) (x : De.DV) : (insD l x).map (·.1) = De.insL (l.map (·.1)) x.1 := by
 rw [placeL_take, insD, List.map_append, List.map_cons, List.map_take, List.map_drop]
theorem idx_some {l : List De.DV} {n : Int} {z : Int} (h : De.idxV (De.idxP (l.map (·.1)) n) = z) : (0 ≤ z ∧ (De.fnd (l.map (·.1)) n).isSome = true) ∨ (z = -1 ∧ De.fnd (l.map (·.1)) n = none) := by
 rw [De.idxP_fnd]
 cases hp : De.idxP (l.map (·.1)) n with
 | none => rw [hp] at h; exact .inr ⟨h.symm, rfl⟩
 | some p =>
  rw [hp] at h
  obtain ⟨a, ha, _⟩ := De.idxP_some hp
  refine .inl ⟨?_, by show ((l.map (·.1))[p]?).isSome = true; rw [ha]; rfl⟩
  rw [← h]
  show (0 : Int) ≤ (p : Int)
  omega
end Go.Proofs.YtldcediiobfhiaaGreatDoor
namespace Go.Proofs.YtldcediiobfhiaaGreatDoor
open Go.RowKit
theorem info30b : (Tryz.prog.info? 29).map (·.size) = some 1 := by kernel_rfl
theorem one30 : (#[Value.slice none 0 0] : Array Value).all (·.oneCell') = true := by simp [Value.oneCell']
/-- What Insert answers. -/
def InsPost (w : World) (l : List De.DV) (x : De.DV) (e : Ending) (w' : World) : Prop := Kp [] w w' ∧ ∃ v L, e = .returned (.tuple #[.agg #[v], .int .i64 (insT (l.map (·.1)) x.1)]) ∧ DAny w' v L ∧ ((insT (l.map (·.1)) x.1 ≠ 0 ∧ L = []) ∨ (insT (l.map (·.1)) x.1 = 0 ∧ L = insD l x)) ∧ ∀ b, v.ownBlock = some b → w.heap.size ≤ b
theorem ins_err {w W : World} {l : List De.DV} {x : De.DV} {B : Nat} {E : Int} (hk : Kp [] w W) (hB : w.heap.size ≤ B) (hT : insT (l.map (·.1)) x.1 = E) (hE : E ≠ 0) : InsPost w l x (.returned (.tuple #[.agg #[.slice none 0 0], .int .i64 E])) (W.setRow B #[.slice none 0 0]) :=
 ⟨hk.setRow (.inr hB) _, .slice none 0 0, [], by rw [hT], .inl ⟨rfl, rfl⟩, .inl ⟨by rw [hT]; exact hE, rfl⟩, fun b h => by cases h⟩
theorem dvC_all {W : World} {g o : Nat} {a : De.ADev} {v : Value} (h : W.rangeAt g o (De.dvC a v)) : W.cell? ⟨g, o, none⟩ = some (.int .i64 a.idx) ∧ W.cell? ⟨g, o + 1, none⟩ = some (.int .i64 a.par) ∧ W.cell? ⟨g, o + 2, none⟩ = some (.string a.name) ∧ W.cell? ⟨g, o + 3, none⟩ = some (.string a.orig) ∧ W.cell? ⟨g, o + 4, none⟩ = some (.string a.sub) ∧ W.cell? ⟨g, o + 5, none⟩ = some (.string a.drv) ∧ W.cell? ⟨g, o + 6, none⟩ = some (.string a.ali) ∧ W.cell? ⟨g, o + 7, none⟩ = some (.int .i64 a.kind) ∧ W.cell? ⟨g, o + 8, none⟩ = some (.int .i64 a.num) ∧ W.cell? ⟨g, o + 9, none⟩ = some v :=
 ⟨h 0 _ rfl, h 1 _ rfl, h 2 _ rfl, h 3 _ rfl, h 4 _ rfl, h 5 _ rfl, h 6 _ rfl, h 7 _ rfl, h 8 _ rfl, h 9 _ rfl⟩
theorem str_new (W : World) (s : ByteArray) : (W.alloc (.cells #[.string s] 9)).rangeAt W.heap.size 0 (stT.cf s.data.toList) := by
 intro j u hj
 rw [cell_of_row _ _ _ _ _ _ (heap_alloc_last W _)]
 have : stT.cf s.data.toList = [.string s] := by
  show [Value.string (bs s.data.toList)] = _
  rw [bs_of]
 rw [this] at hj
 simpa using hj
theorem hra_lt {W : World} {b : Nat} {s : List UInt8} (h : W.rangeAt b 0 (stT.cf s)) : b < W.heap.size := World.block_lt_of_cell? _ _ (h 0 (.string (bs s)) rfl)
theorem range_kp {W W' : World} {b o : Nat} {l : List Value} (h : W.rangeAt b o l) (hk : Kp [] W W') : W'.rangeAt b o l := fun j u hj => cell_kp hk (h j u hj)
theorem one_row {W : World} {G : Nat} {x : De.DV} (hG : W.heap[G]? = some (.cells (De.dvC x.1 x.2).toArray 34 (0, 0))) (ha : De.Has W x.2 x.1.ats) : De.DHas W (.slice (some ⟨G, 0, none⟩) 1 1) [x] := by
 refine .inr ⟨G, 0, 1, rfl, Nat.le_refl _, block_lt hG, ⟨fun j y hy => ?_, fun y hy => by rw [List.mem_singleton.1 hy]; exact ha⟩⟩
 cases j with
 | zero =>
  have : y = x := by simpa using hy.symm
  subst this
  intro m u hu
  rw [cell_of_row _ _ _ _ _ _ hG]
  simpa using hu
 | succ j => simp at hy
theorem ownsRow_keep {W W' : World} {B n : Nat} {v : Value} {xs : List Value} (h : W.ownsRow B 34 10 v n xs) (hk : ∀ b, B ≤ b → v.ownBlock = some b → W'.heap[b]? = W.heap[b]?) : W'.ownsRow B 34 10 v n xs := by
 refine ⟨h.1, ?_⟩
 rcases h.2 with h0 | ⟨g, cap, cur, hv, hB, hh, r⟩
 ·exact .inl h0
 ·exact .inr ⟨g, cap, cur, hv, hB, (hk g hB (by rw [hv]; rfl)).trans hh, r⟩
theorem ownsRow_one {W : World} {B n : Nat} {v : Value} {xs : List Value} (h : W.ownsRow B 34 10 v n xs) : (#[v] : Array Value).all (·.oneCell') = true := by
 rcases h.2 with ⟨h0, _⟩ | ⟨g, cap, cur, hv, _⟩
 ·rw [h0]
  simp [Value.oneCell']
 ·rw [hv]
  simp [Value.oneCell']
theorem ownsRow_form {W : World} {B n : Nat} {v : Value} {xs : List Value} (h : W.ownsRow B 34 10 v n xs) : ∃ a n c, v = .slice a n c := by
 rcases h.2 with ⟨h0, _⟩ | ⟨g, cap, cur, hv, _⟩
 ·exact ⟨_, _, _, h0⟩
 ·exact ⟨_, _, _, hv⟩
theorem set_one {W : World} {Q : Nat} {u v : Value} (h : W.heap[Q]? = some (.cells #[u] 29 (0, 0))) : (W.setCell ⟨Q, 0, none⟩ v).heap[Q]? = some (.cells #[v] 29 (0, 0)) := by
 simp [World.setCell, Array.getElem?_modify, h]
theorem frz_one {W : World} {Q : Nat} {u : Value} (h : W.heap[Q]? = some (.cells #[u] 29 (0, 0))) : W.frozen? ⟨Q, 0, none⟩ = false := by
 simp [World.frozen?, h]
theorem cell_one {W : World} {Q : Nat} {u : Value} (h : W.heap[Q]? = some (.cells #[u] 29 (0, 0))) : W.cell? ⟨Q, 0, none⟩ = some u := by
 rw [cell_of_row _ _ _ _ _ _ h]
 rfl
set_option maxHeartbeats 16000000 in
set_option maxRecDepth 100000 in
theorem refInsert_any (l : List De.DV) (sv : Value) (d : De.Dev) (la : List De.Atr) (w : World) (hsv : DAny w sv l) (hd : De.Has w d.av la) (hs : De.Sized d la) (hla : la.length ≤ 1000000) (hsl : ∀ x ∈ l, x.1.orig.size < 1000000) (hso : d.orig.size < 1000000) (hm : De.Max w) (hv : De.Valid sndA clA (l.map (·.1))) :
  Calls Tryz.prog 41 #[.agg #[sv], De.devV d] w (InsPost w l (aOf d la, d.av)) := by
 have hN256 : l.length ≤ 256 := by
  have := hv.size
  rwa [List.length_map] at this
 have hform : ∃ a c, sv = .slice a l.length c ∧ ∀ (i : Nat) (x : De.DV), l[i]? = some x → ∃ g o, a = some ⟨g, o, none⟩ ∧ g < w.heap.size ∧ De.DRow w g o l := by
  rcases hsv with ⟨h1, h2⟩ | ⟨g, o, c, h1, hc, hg, hr⟩
  ·exact ⟨none, 0, by rw [h1, h2]; rfl, fun i x hx => by rw [h2] at hx; simp at hx⟩
  ·exact ⟨_, c, h1, fun i x hx => ⟨g, o, rfl, hg, hr⟩⟩
 obtain ⟨a, c, rfl, hrow⟩ := hform
 have HIX := Lib.hid (fun n W (hk : Kp [] w W) => De.refIndex_any (.slice a l.length c) l n W (by omega) (hsv.has.below hk.bel))
 have HOR := Lib.hid (fun n W (hk : Kp [] w W) => refOrigin_any (.slice a l.length c) l n W (by omega) (hsv.has.below hk.bel))
 have HCK := Lib.hid (fun W (hk : Kp [] w W) => De.refCheck_any d la W (by omega) (hd.below hk.bel) hs (hm.below hk.bel))
 have HCL := Lib.hid (fun x (hx : x ∈ l) W (hk : Kp [] w W) => clash_any (De.devOf x.1 x.2) d W (hsl x hx) hso (hm.below hk.bel))
 have HSV := Lib.hid hsv
 have HD := Lib.hid hd
 have HVA := Lib.hid hv
 have HRow := Lib.hid hrow
 obtain ⟨X, hX⟩ : ∃ X, (aOf d la, d.av) = X := ⟨_, rfl⟩
 rw [hX]
 have hX1 : aOf d la = X.1 := by rw [← hX]
 have HX := Lib.hid hX
 have HX1 := Lib.hid hX1
 obtain ⟨ldl, hldl⟩ : ∃ L, l.map (·.1) = L := ⟨_, rfl⟩
 have HLd := Lib.hid hldl
 have HOW := Lib.hid (own_org l d la)
 have Hidx := Lib.hid (show d.idx = X.1.idx from by rw [← hX1]; rfl)
 have Hpar := Lib.hid (show d.par = X.1.par from by rw [← hX1]; rfl)
 have HE0 := Lib.hid (show sndA X.1 = decide (De.checkE d la = 0) from by rw [← hX1]; rfl)
 have HCX := Lib.hid (fun x => by have := clash_cl x d la; rw [hX1] at this; exact this)
 obtain ⟨N, hN⟩ : ∃ N, l.length = N := ⟨_, rfl⟩
 have HN := Lib.hid hN
 clear hsv hd hv hs hla hsl hso hm hrow hX hX1 hldl
 obtain ⟨di, dp, dn, do_, du, dd, dl, dk, dm, dv⟩ := d
 unfold De.devV De.devC at *
 unfold De.devOf at HCL HCX
 simp only at HCK HCL HCX HD HOW Hidx Hpar HE0 ⊢
 rw [hN] at hN256 HIX HOR HSV ⊢
 clear hN
 obtain ⟨Bz, hBz⟩ : ∃ Bz, w.heap.size = Bz := ⟨_, rfl⟩
 obtain ⟨W0, hW⟩ : ∃ W0, ((w.alloc (.cells #[.slice a N c] 29)).alloc (.cells #[.int .i64 di, .int .i64 dp, .string dn, .string do_, .string du, .string dd, .string dl, .int .i64 dk, .int .i64 dm, dv] 34)).alloc (.cells #[.slice none 0 0] 29) = W0 := ⟨_, rfl⟩
 have HK0 := Lib.hid (show Kp [] w W0 from by rw [← hW]; exact (((Kp.refl [] w).alloc _).alloc _).alloc _)
 have HS0 := Lib.hid (show W0.heap.size = Bz + 3 from by rw [← hW, World.size_alloc, World.size_alloc, World.size_alloc, hBz])
 have HF := Lib.hid (show ∀ W, Kp [] W0 W → W.heap[Bz]? = some (.cells #[.slice a N c] 29 (0, 0)) ∧ De.BoxAt W (Bz + 1) #[.int .i64 di, .int .i64 dp, .string dn, .string do_, .string du, .string dd, .string dl, .int .i64 dk, .int .i64 dm, dv] ∧ W.heap[Bz + 2]? = some (.cells #[.slice none 0 0] 29 (0, 0)) from fun W hk => by
  have h1 := heap_alloc2_old w (.cells #[.slice a N c] 29) (.cells #[.int .i64 di, .int .i64 dp, .string dn, .string do_, .string du, .string dd, .string dl, .int .i64 dk, .int .i64 dm, dv] 34)
  have h2 := heap_alloc_last (w.alloc (.cells #[.slice a N c] 29)) (.cells #[.int .i64 di, .int .i64 dp, .string dn, .string do_, .string du, .string dd, .string dl, .int .i64 dk, .int .i64 dm, dv] 34)
  have h3 := heap_alloc_last ((w.alloc (.cells #[.slice a N c] 29)).alloc (.cells #[.int .i64 di, .int .i64 dp, .string dn, .string do_, .string du, .string dd, .string dl, .int .i64 dk, .int .i64 dm, dv] 34)) (.cells #[.slice none 0 0] 29)
  have hb := Below.heap_alloc ((w.alloc (.cells #[.slice a N c] 29)).alloc (.cells #[.int .i64 di, .int .i64 dp, .string dn, .string do_, .string du, .string dd, .string dl, .int .i64 dk, .int .i64 dm, dv] 34)) (.cells #[.slice none 0 0] 29)
  rw [hW] at h3 hb
  rw [World.size_alloc, World.size_alloc, hBz] at h3
  rw [World.size_alloc, hBz] at h2
  rw [hBz] at h1
  have hs := HS0.out
  refine ⟨(hk.block Bz (by omega) (by simp)).trans ((hb Bz (by rw [World.size_alloc, World.size_alloc]; omega)).trans h1), (hk.block (Bz + 1) (by omega) (by simp)).trans ((hb (Bz + 1) (by rw [World.size_alloc, World.size_alloc]; omega)).trans h2), (hk.block (Bz + 2) (by omega) (by simp)).trans h3⟩)
 obtain ⟨f1, f2, f3⟩ := HF.out W0 (Kp.refl [] W0)
 have t0 := (cell_of_row _ _ 0 _ _ _ f1)
 simp only [List.getElem?_toArray, List.getElem?_cons_zero] at t0
 have dc := f2.cell
 have HR0 := Lib.hid f3
 have HB0 := Lib.hid f2
 clear f1 f2 f3
 have HBz := Lib.hid hBz
 have hwz : w.heap.size ≤ Bz + 2 := by omega
 have Hwz := Lib.hid hwz
 clear hwz
 obtain ⟨ck, hck⟩ : ∃ z, De.checkE ⟨di, dp, dn, do_, du, dd, dl, dk, dm, dv⟩ la = z := ⟨_, rfl⟩
 rw [hck] at HCK HE0
 by_cases q1 : ck = 0
 rotate_left
 ·have q1n : (ck != 0) = true := by rw [bne, beq_eq_false_iff_ne.2 q1]; rfl
  have HT := Lib.hid (show insT (l.map (·.1)) X.1 = 41 from by
   have := HE0.out
   rw [decide_eq_false q1] at this
   unfold insT
   rw [if_pos this])
  go_enter Tryz.func41, Tryz.ntmps41
  go_upto_region 2 with (first
   | (refine wpList_load_row rfl 34 _ rfl (Bz + 1) rfl 34 #[.int .i64 di, .int .i64 dp, .string dn, .string do_, .string du, .string dd, .string dl, .int .i64 dk, .int .i64 dm, dv] (0, 0) _ HB0.out Tryz.underlying34 rfl De.info34b ?_)
   | (go_at_call 55; refine Calls.mono (by with_reducible exact HCK.out _ HK0.out) ?_; rintro e W1 ⟨rfl, hb1⟩; have HK1 := Lib.hid ((Kp.refl [] W0).trans (Kp.of_bel hb1)); clear hb1))
  have HR1 := Lib.hid (HF.out _ HK1.out).2.2
  go_wp2_with (refine wpList_store_row rfl 29 _ _ rfl (Bz + 2) #[.slice none 0 0] rfl rfl 29 #[.slice none 0 0] HR1.out info30b rfl one30 ?_)
  exact bodyPost_ret (v := .tuple #[.agg #[.slice none 0 0], .int .i64 41]) (De.results_row_tmp rfl _ _ (Bz + 2) 29 #[.slice none 0 0] _ _ _ rfl rfl (setRow_heap _ _ _ _ _ _ HR1.out) Tryz.underlying29 rfl info30b) rfl (ins_err (HK0.out.trans HK1.out) Hwz.out HT.out (by decide))
 have HT1 := Lib.hid (show sndA X.1 = true from by rw [HE0.out, decide_eq_true q1])
 subst q1
 obtain ⟨z1, hz1⟩ : ∃ z, De.idxV (De.idxP (l.map (·.1)) di) = z := ⟨_, rfl⟩
 have HI1 := Lib.hid (fun W (hk : Kp [] w W) => by have := HIX.out di W hk; rw [hz1] at this; exact this)
 have hz1' := idx_some hz1
 rw [Hidx.out] at hz1'
 go_enter Tryz.func41, Tryz.ntmps41
 go_upto_region 3 with (first
  | (refine wpList_load_row rfl 34 _ rfl (Bz + 1) rfl 34 #[.int .i64 di, .int .i64 dp, .string dn, .string do_, .string du, .string dd, .string dl, .int .i64 dk, .int .i64 dm, dv] (0, 0) _ HB0.out Tryz.underlying34 rfl De.info34b ?_)
  | (go_at_call 55; refine Calls.mono (by with_reducible exact HCK.out _ HK0.out) ?_; rintro e W1 ⟨rfl, hb1⟩; have HK1 := Lib.hid ((Kp.refl [] W0).trans (Kp.of_bel hb1)); clear hb1))
 obtain ⟨f1, f2, f3⟩ := HF.out W1 HK1.out
 clear t0 dc hW hBz
 have t0 := (cell_of_row _ _ 0 _ _ _ f1)
 simp only [List.getElem?_toArray, List.getElem?_cons_zero] at t0
 have dc := f2.cell
 clear f1 f2 f3
 rcases hz1' with ⟨hz, hsome⟩ | ⟨rfl, hnone⟩
 ·have HT := Lib.hid (show insT (l.map (·.1)) X.1 = 44 from by
   unfold insT
   rw [if_neg (by rw [HT1.out]; simp), if_pos hsome])
  clear hsome hz1
  go_upto_region 4 with (go_at_call 56; refine Calls.mono (by with_reducible exact HI1.out _ (HK0.out.trans HK1.out)) ?_; rintro e W2 ⟨rfl, hb2⟩; have HK2 := Lib.hid (HK1.out.trans (Kp.of_bel hb2)); clear hb2)
  have HR1 := Lib.hid (HF.out _ HK2.out).2.2
  go_wp2_with (refine wpList_store_row rfl 29 _ _ rfl (Bz + 2) #[.slice none 0 0] rfl rfl 29 #[.slice none 0 0] HR1.out info30b rfl one30 ?_)
  exact bodyPost_ret (v := .tuple #[.agg #[.slice none 0 0], .int .i64 44]) (De.results_row_tmp rfl _ _ (Bz + 2) 29 #[.slice none 0 0] _ _ _ rfl rfl (setRow_heap _ _ _ _ _ _ HR1.out) Tryz.underlying29 rfl info30b) rfl (ins_err (HK0.out.trans HK2.out) Hwz.out HT.out (by decide))
 have HT2 := Lib.hid hnone
 clear hnone hz1
 go_upto_region 5 with (go_at_call 56; refine Calls.mono (by with_reducible exact HI1.out _ (HK0.out.trans HK1.out)) ?_; rintro e W2 ⟨rfl, hb2⟩; have HK2 := Lib.hid (HK1.out.trans (Kp.of_bel hb2)); clear hb2)
 obtain ⟨f1, f2, f3⟩ := HF.out W2 HK2.out
 clear t0 dc HI1
 have t0 := (cell_of_row _ _ 0 _ _ _ f1)
 simp only [List.getElem?_toArray, List.getElem?_cons_zero] at t0
 have dc := f2.cell
 clear f1 f2 f3
 obtain ⟨z2, hz2⟩ : ∃ z, De.idxV (De.idxP (l.map (·.1)) dp) = z := ⟨_, rfl⟩
 have HI2 := Lib.hid (fun W (hk : Kp [] w W) => by have := HIX.out dp W hk; rw [hz2] at this; exact this)
 have hz2' := idx_some hz2
 rw [Hpar.out] at hz2'
 clear hz2
 obtain ⟨bad, hbad⟩ : ∃ b : Bool, b = true ↔ (X.1.par ≠ 0 ∧ De.fnd (l.map (·.1)) X.1.par = none) := ⟨decide (X.1.par ≠ 0 ∧ De.fnd (l.map (·.1)) X.1.par = none), by simp⟩
 have Hbad := Lib.hid hbad
 clear hbad
 go_cut [32] (fun s32 wx => s32 = .bool bad ∧ Kp [] W0 wx)
 case first =>
  by_cases p0 : dp = 0
  ·have Hb := Lib.hid (show bad = false from by
    cases hb : bad with
    | false => rfl
    | true => exact absurd (Hpar.out.symm.trans p0) (Hbad.out.1 hb).1)
   subst p0
   go_wp2
   go_meet
   exact ⟨by rw [Hb.out], HK2.out⟩
  ·have p0n : (dp != 0) = true := by rw [bne, beq_eq_false_iff_ne.2 p0]; rfl
   have Hp0 := Lib.hid (show X.1.par ≠ 0 from by rw [← Hpar.out]; exact p0)
   rcases hz2' with ⟨hz, hsome⟩ | ⟨rfl, hnone⟩
   ·have Hb := Lib.hid (show bad = false from by
     cases hb : bad with
     | false => rfl
     | true => have := (Hbad.out.1 hb).2; rw [this] at hsome; cases hsome)
    have hzn : ¬ z2 < 0 := by omega
    clear hsome p0
    go_wp2_with (go_at_call 56; refine Calls.mono (by with_reducible exact HI2.out _ (HK0.out.trans HK2.out)) ?_; rintro e W3 ⟨rfl, hb3⟩; have HK3 := Lib.hid (HK2.out.trans (Kp.of_bel hb3)); clear hb3)
    go_meet
    exact ⟨by rw [Hb.out]; simp only [decide_eq_false_iff_not, Value.bool.injEq]; omega, HK3.out⟩
   ·have Hb := Lib.hid (show bad = true from Hbad.out.2 ⟨Hp0.out, hnone⟩)
    clear hnone p0
    go_wp2_with (go_at_call 56; refine Calls.mono (by with_reducible exact HI2.out _ (HK0.out.trans HK2.out)) ?_; rintro e W3 ⟨rfl, hb3⟩; have HK3 := Lib.hid (HK2.out.trans (Kp.of_bel hb3)); clear hb3)
    go_meet
    exact ⟨by rw [Hb.out], HK3.out⟩
 case rest =>
  obtain ⟨rfl, hk3⟩ := hcut
  have HK3 := Lib.hid hk3
  clear hk3 hz2' HI2 t0 dc
  obtain ⟨f1, f2, f3⟩ := HF.out wc HK3.out
  have t0 := (cell_of_row _ _ 0 _ _ _ f1)
  simp only [List.getElem?_toArray, List.getElem?_cons_zero] at t0
  have dc := f2.cell
  have HR1 := Lib.hid f3
  clear f1 f2 f3
  cases bad with
  | true =>
   have HT := Lib.hid (show insT (l.map (·.1)) X.1 = 42 from by
    unfold insT
    rw [if_neg (by rw [HT1.out]; simp), if_neg (by rw [HT2.out]; simp), if_pos (Hbad.out.1 rfl)])
   go_upto_region 6 with fail
   go_wp2_with (refine wpList_store_row rfl 29 _ _ rfl (Bz + 2) #[.slice none 0 0] rfl rfl 29 #[.slice none 0 0] HR1.out info30b rfl one30 ?_)
   exact bodyPost_ret (v := .tuple #[.agg #[.slice none 0 0], .int .i64 42]) (De.results_row_tmp rfl _ _ (Bz + 2) 29 #[.slice none 0 0] _ _ _ rfl rfl (setRow_heap _ _ _ _ _ _ HR1.out) Tryz.underlying29 rfl info30b) rfl (ins_err (HK0.out.trans HK3.out) Hwz.out HT.out (by decide))
  | false =>
   have HT3 := Lib.hid (show ¬ (X.1.par ≠ 0 ∧ De.fnd (l.map (·.1)) X.1.par = none) from fun h => by have := Hbad.out.2 h; cases this)
   by_cases h256 : 256 ≤ N
   ·have HT := Lib.hid (show insT (l.map (·.1)) X.1 = 40 from by
     unfold insT
     rw [if_neg (by rw [HT1.out]; simp), if_neg (by rw [HT2.out]; simp), if_neg HT3.out, if_pos (by rw [List.length_map, HN.out]; exact h256)])
    have hz : (256 : Int) ≤ (N : Int) := by omega
    go_upto_region 8 with fail
    go_wp2_with (refine wpList_store_row rfl 29 _ _ rfl (Bz + 2) #[.slice none 0 0] rfl rfl 29 #[.slice none 0 0] HR1.out info30b rfl one30 ?_)
    exact bodyPost_ret (v := .tuple #[.agg #[.slice none 0 0], .int .i64 40]) (De.results_row_tmp rfl _ _ (Bz + 2) 29 #[.slice none 0 0] _ _ _ rfl rfl (setRow_heap _ _ _ _ _ _ HR1.out) Tryz.underlying29 rfl info30b) rfl (ins_err (HK0.out.trans HK3.out) Hwz.out HT.out (by decide))
   ·have HT4 := Lib.hid (show ¬ 256 ≤ (l.map (·.1)).length from by rw [List.length_map, HN.out]; exact h256)
    have hz : ¬ (256 : Int) ≤ (N : Int) := by omega
    go_upto_region 9 with fail
    obtain ⟨OW, hOW⟩ : ∃ O, orgL l dp ++ [do_.data.toList] = O := ⟨_, rfl⟩
    have HOWd := Lib.hid hOW
    have HOX := Lib.hid (show De.org (l.map (·.1)) X.1 = OW from by rw [← HX1.out, ← hOW]; exact HOW.out.symm)
    clear hOW
    have HLo := Lib.hid (show (orgL l dp).length ≤ 1000000 from by have := orgL_len l dp; have := HN.out; omega)
    go_cut [6] (fun s6 wx => ∃ v, s6 = v ∧ stT.Own wx (Bz + 3) v OW ∧ Kp [] W0 wx)
    case first =>
     have hdr := (Kp.refl [] wc).drew 1
     refine wp_region_held_drew (S := fun W => Kp [] wc W) (by kernel_rfl) hdr (fun hHeld => ?_)
     refine wpAnyH_take (i := 0) (oi := { dst := some 39, op := Op.load 29 (Operand.tmp 2), type := 29, pos := "ref.go:195", after := #[], guard := none }) (v := .agg #[.slice a N c]) rfl (by kernel_rfl) (by kernel_rfl) (by kernel_rfl) (fun _ _ _ h => h) (Or.inl ⟨by rfl, fun w hSw => by (try dsimp only at hSw); have t0 := (cell_of_row _ _ 0 _ _ _ (HF.out _ (HK3.out.trans hSw)).1); simp only [List.getElem?_toArray, List.getElem?_cons_zero] at t0; go_simp⟩) hHeld ?_
     try simp only [Act.put, List.setIfInBounds_toArray, List.set_cons_zero, List.set_cons_succ]
     refine wpAnyH_take (i := 1) (oi := { dst := some 40, op := Op.fieldAddr 34 (Operand.tmp 3) 1, type := 0, pos := "ref.go:195", after := #[], guard := none }) (v := .pointer (some ⟨Bz + 1, 1, none⟩)) rfl (by kernel_rfl) (by kernel_rfl) (by kernel_rfl) (fun _ _ _ h => h) (Or.inl ⟨by rfl, fun w hSw => by (try dsimp only at hSw); go_simp⟩) hHeld ?_
     try simp only [Act.put, List.setIfInBounds_toArray, List.set_cons_zero, List.set_cons_succ]
     refine wpAnyH_take (i := 2) (oi := { dst := some 41, op := Op.load 3 (Operand.tmp 40), type := 3, pos := "ref.go:195", after := #[{ on := 1, ground := Ground.data }], guard := none }) (v := .int .i64 dp) rfl (by kernel_rfl) (by kernel_rfl) (by kernel_rfl) (fun _ _ _ h => h) (Or.inl ⟨by rfl, fun w hSw => by (try dsimp only at hSw); have dc := (HF.out _ (HK3.out.trans hSw)).2.1.cell; go_simp⟩) hHeld ?_
     try simp only [Act.put, List.setIfInBounds_toArray, List.set_cons_zero, List.set_cons_succ]
     refine wpAnyH_take (i := 4) (oi := { dst := some 43, op := Op.fieldAddr 34 (Operand.tmp 3) 3, type := 0, pos := "ref.go:195", after := #[], guard := none }) (v := .pointer (some ⟨Bz + 1, 3, none⟩)) rfl (by kernel_rfl) (by kernel_rfl) (by kernel_rfl) (fun _ _ _ h => h) (Or.inl ⟨by rfl, fun w hSw => by (try dsimp only at hSw); go_simp⟩) hHeld ?_
     try simp only [Act.put, List.setIfInBounds_toArray, List.set_cons_zero, List.set_cons_succ]
     refine wpAnyH_take (i := 5) (oi := { dst := some 44, op := Op.load 9 (Operand.tmp 43), type := 9, pos := "ref.go:195", after := #[{ on := 4, ground := Ground.data }], guard := none }) (v := .string do_) rfl (by kernel_rfl) (by kernel_rfl) (by kernel_rfl) (fun _ _ _ h => h) (Or.inl ⟨by rfl, fun w hSw => by (try dsimp only at hSw); have dc := (HF.out _ (HK3.out.trans hSw)).2.1.cell; go_simp⟩) hHeld ?_
     try simp only [Act.put, List.setIfInBounds_toArray, List.set_cons_zero, List.set_cons_succ]
     refine wpAnyH_ready (rs := [3, 6]) (by kernel_rfl) (by simp) ?_
     refine AllReadyH.cons (o := { dst := some 42, op := Op.call { callee := Callee.value (Operand.func 57), args := #[Operand.tmp 39, Operand.tmp 41], argTypes := #[29, 3] }, type := 62, pos := "ref.go:195", after := #[{ on := 0, ground := Ground.data }, { on := 2, ground := Ground.data }], guard := none }) rfl (fun K hK => ?_) (AllReadyH.cons (o := { dst := some 45, op := Op.buildSlice 62 1 #[(0, Operand.tmp 44)], type := 62, pos := "ref.go:195", after := #[{ on := 5, ground := Ground.data }], guard := none }) rfl (fun K hK => ?_) AllReadyH.nil)
     ·skip
      go_simp
      go_at_call 57
      refine Calls.mono (by with_reducible exact HOR.out dp _ (HK0.out.trans (HK3.out.trans hHeld))) ?_
      rintro e W5 ⟨u, rfl, hown, hk5⟩
      dsimp only
      have HOg := Lib.hid (hown.down hHeld.size)
      have HO5 := Lib.hid (hown.down (show Bz + 3 ≤ _ from by have := HS0.out; have := HK3.out.size; have := hHeld.size; omega))
      have hH := hHeld.trans hk5
      clear hown hk5 hHeld
      refine hK.out _ _ hH (fun hHeld => ?_)
      try simp only [Act.put, List.setIfInBounds_toArray, List.set_cons_zero, List.set_cons_succ]
      clear hK hH
      refine wpAnyH_ready (rs := [6]) (by kernel_rfl) (by simp) ?_
      refine AllReadyH.cons (o := { dst := some 45, op := Op.buildSlice 62 1 #[(0, Operand.tmp 44)], type := 62, pos := "ref.go:195", after := #[{ on := 5, ground := Ground.data }], guard := none }) rfl (fun K hK => ?_) AllReadyH.nil
      go_simp
      have hka := (Kp.refl [] W5).alloc (.cells #[.string do_] 9)
      have hra := str_new W5 do_
      generalize W5.alloc (.cells #[.string do_] 9) = w6 at *
      have HRa := Lib.hid hra
      have HO6 := Lib.hid (HO5.out.kp0 hka)
      have HOg := Lib.hid (HOg.out.kp0 hka)
      have hH := hHeld.trans hka
      clear hka hra hHeld
      refine hK.out _ _ hH (fun hHeld => ?_)
      try simp only [Act.put, List.setIfInBounds_toArray, List.set_cons_zero, List.set_cons_succ]
      clear hK hH
      refine wpAnyH_ready (rs := [7]) (by kernel_rfl) (by simp) ?_
      refine AllReadyH.cons (o := { dst := some 46, op := Op.call { callee := Callee.builtin Builtin.append, args := #[Operand.tmp 42, Operand.tmp 45], argTypes := #[62, 62] }, type := 62, pos := "ref.go:195", after := #[{ on := 3, ground := Ground.data }, { on := 6, ground := Ground.data }, { on := 3, ground := Ground.chain }], guard := none }) rfl (fun K hK => ?_) AllReadyH.nil
      refine step_append_r (r := stT) rfl (.tmp 42) (.tmp 45) rfl (Bz + 3) u (orgL l dp) rfl HO6.out W5.heap.size 1 do_.data.toList rfl HRa.out HLo.out (by have := HS0.out; have := HK3.out.size; have := hHeld.size; omega) ?_
      intro v8 w8 hown8 hgr8
      have HO8 := Lib.hid hown8
      have HK8 := Lib.hid (kp_grownS hHeld hgr8 fun b hb => (HOg.out.ge b hb).1)
      clear hown8 hgr8 hHeld
      refine hK.out _ _ HK8.out (fun hHeld => ?_)
      try simp only [Act.put, List.setIfInBounds_toArray, List.set_cons_zero, List.set_cons_succ]
      clear hK
      refine wpAnyH_ready (rs := [8]) (by kernel_rfl) (by simp) ?_
      refine AllReadyH.cons (o := { dst := some 6, op := Op.assign (Operand.tmp 46), type := 62, pos := "ref.go:195", after := #[{ on := 7, ground := Ground.data }, { on := 7, ground := Ground.chain }, { on := 0, ground := Ground.phase }, { on := 1, ground := Ground.phase }, { on := 2, ground := Ground.phase }, { on := 3, ground := Ground.phase }, { on := 4, ground := Ground.phase }, { on := 5, ground := Ground.phase }, { on := 6, ground := Ground.phase }, { on := 7, ground := Ground.phase }], guard := none }) rfl (fun K hK => ?_) AllReadyH.nil
      have HKf := Lib.hid hHeld
      go_simp
      clear hHeld
      refine hK.out _ _ HKf.out (fun hHeld => ?_)
      try simp only [Act.put, List.setIfInBounds_toArray, List.set_cons_zero, List.set_cons_succ]
      clear hK
      refine wpAnyH_done (by kernel_rfl) ?_ _
      clear hHeld
      go_wp2
      go_meet
      exact ⟨v8, rfl, HOWd.out ▸ HO8.out, HK3.out.trans HKf.out⟩
     ·skip
      go_simp
      have hka : Kp [] wc.drew (wc.alloc (.cells #[.string do_] 9)).drew := (Kp.refl [] wc.drew).alloc (.cells #[.string do_] 9)
      have hra : (wc.alloc (.cells #[.string do_] 9)).drew.rangeAt wc.heap.size 0 (stT.cf do_.data.toList) := str_new wc.drew do_
      generalize (wc.alloc (.cells #[.string do_] 9)).drew = w6 at *
      have HRa6 := Lib.hid hra
      have hH := hHeld.trans hka
      have Hlt := Lib.hid (hra_lt hra)
      clear hka hra hHeld
      refine hK.out _ _ hH (fun hHeld => ?_)
      try simp only [Act.put, List.setIfInBounds_toArray, List.set_cons_zero, List.set_cons_succ]
      clear hK hH
      refine wpAnyH_ready (rs := [3]) (by kernel_rfl) (by simp) ?_
      refine AllReadyH.cons (o := { dst := some 42, op := Op.call { callee := Callee.value (Operand.func 57), args := #[Operand.tmp 39, Operand.tmp 41], argTypes := #[29, 3] }, type := 62, pos := "ref.go:195", after := #[{ on := 0, ground := Ground.data }, { on := 2, ground := Ground.data }], guard := none }) rfl (fun K hK => ?_) AllReadyH.nil
      go_simp
      go_at_call 57
      refine Calls.mono (by with_reducible exact HOR.out dp _ (HK0.out.trans (HK3.out.trans hHeld))) ?_
      rintro e W5 ⟨u, rfl, hown, hk5⟩
      dsimp only
      have HOg := Lib.hid (hown.down hHeld.size)
      have HO5 := Lib.hid (hown.down (show Bz + 3 ≤ _ from by have := HS0.out; have := HK3.out.size; have := hHeld.size; omega))
      have HRa := Lib.hid (range_kp HRa6.out hk5)
      have hH := hHeld.trans hk5
      clear hown hk5 hHeld
      refine hK.out _ _ hH (fun hHeld => ?_)
      try simp only [Act.put, List.setIfInBounds_toArray, List.set_cons_zero, List.set_cons_succ]
      clear hK hH
      refine wpAnyH_ready (rs := [7]) (by kernel_rfl) (by simp) ?_
      refine AllReadyH.cons (o := { dst := some 46, op := Op.call { callee := Callee.builtin Builtin.append, args := #[Operand.tmp 42, Operand.tmp 45], argTypes := #[62, 62] }, type := 62, pos := "ref.go:195", after := #[{ on := 3, ground := Ground.data }, { on := 6, ground := Ground.data }, { on := 3, ground := Ground.chain }], guard := none }) rfl (fun K hK => ?_) AllReadyH.nil
      refine step_append_r (r := stT) rfl (.tmp 42) (.tmp 45) rfl (Bz + 3) u (orgL l dp) rfl HO5.out wc.heap.size 1 do_.data.toList rfl HRa.out HLo.out (by have := HS0.out; have := HK3.out.size; have := hHeld.size; omega) ?_
      intro v8 w8 hown8 hgr8
      have HO8 := Lib.hid hown8
      have HK8 := Lib.hid (kp_grownS hHeld hgr8 fun b hb => (HOg.out.ge b hb).1)
      clear hown8 hgr8 hHeld
      refine hK.out _ _ HK8.out (fun hHeld => ?_)
      try simp only [Act.put, List.setIfInBounds_toArray, List.set_cons_zero, List.set_cons_succ]
      clear hK
      refine wpAnyH_ready (rs := [8]) (by kernel_rfl) (by simp) ?_
      refine AllReadyH.cons (o := { dst := some 6, op := Op.assign (Operand.tmp 46), type := 62, pos := "ref.go:195", after := #[{ on := 7, ground := Ground.data }, { on := 7, ground := Ground.chain }, { on := 0, ground := Ground.phase }, { on := 1, ground := Ground.phase }, { on := 2, ground := Ground.phase }, { on := 3, ground := Ground.phase }, { on := 4, ground := Ground.phase }, { on := 5, ground := Ground.phase }, { on := 6, ground := Ground.phase }, { on := 7, ground := Ground.phase }], guard := none }) rfl (fun K hK => ?_) AllReadyH.nil
      have HKf := Lib.hid hHeld
      go_simp
      clear hHeld
      refine hK.out _ _ HKf.out (fun hHeld => ?_)
      try simp only [Act.put, List.setIfInBounds_toArray, List.set_cons_zero, List.set_cons_succ]
      clear hK
      refine wpAnyH_done (by kernel_rfl) ?_ _
      clear hHeld
      go_wp2
      go_meet
      exact ⟨v8, rfl, HOWd.out ▸ HO8.out, HK3.out.trans HKf.out⟩
    case rest =>
     obtain ⟨v, rfl, hown, hk4⟩ := hcut
     obtain ⟨va, vc, hvf⟩ := hown.form
     obtain ⟨M, hM⟩ : ∃ M, OW.length = M := ⟨_, rfl⟩
     rw [hM] at hvf
     subst hvf
     have HO4 := Lib.hid hown
     have HK4 := Lib.hid hk4
     have HM := Lib.hid hM
     clear hown hk4 hM t0 dc
     obtain ⟨f1, f2, f3⟩ := HF.out wc HK4.out
     have HR1 := Lib.hid f3
     clear f1 f2 f3
     by_cases h7 : 7 < M
     ·have HT := Lib.hid (show insT (l.map (·.1)) X.1 = 46 from by
       unfold insT
       rw [if_neg (by rw [HT1.out]; simp), if_neg (by rw [HT2.out]; simp), if_neg HT3.out, if_neg HT4.out, if_pos (by rw [HOX.out, HM.out]; exact h7)])
      have h7i : (7 : Int) < (M : Int) := by omega
      go_upto_region 11 with fail
      go_wp2_with (refine wpList_store_row rfl 29 _ _ rfl (Bz + 2) #[.slice none 0 0] rfl rfl 29 #[.slice none 0 0] HR1.out info30b rfl one30 ?_)
      exact bodyPost_ret (v := .tuple #[.agg #[.slice none 0 0], .int .i64 46]) (De.results_row_tmp rfl _ _ (Bz + 2) 29 #[.slice none 0 0] _ _ _ rfl rfl (setRow_heap _ _ _ _ _ _ HR1.out) Tryz.underlying29 rfl info30b) rfl (ins_err (HK0.out.trans HK4.out) Hwz.out HT.out (by decide))
     have HT5 := Lib.hid (show ¬ 7 < (De.org (l.map (·.1)) X.1).length from by rw [HOX.out, HM.out]; exact h7)
     have HMl := Lib.hid (show OW.length ≤ 1000000 from by rw [HM.out]; omega)
     have h7i : ¬ (7 : Int) < (M : Int) := by omega
     obtain ⟨P, hP⟩ : ∃ P, De.placeL (l.map (·.1)) OW = P := ⟨_, rfl⟩
     have HP := Lib.hid hP
     have HPN := Lib.hid (show P ≤ N from by
      have := De.placeL_le (l.map (·.1)) OW
      rw [List.length_map, HN.out, hP] at this
      exact this)
     clear hP
     go_wp2
     go_loopw [7, 8, 9] (fun s7 s8 _ wx => ∃ i : Nat, i ≤ N ∧ s8 = .int .i64 (i : Int) ∧ s7 = .int .i64 ((min i P : Nat) : Int) ∧ Hid (∀ x ∈ l.take i, De.org (l.map (·.1)) x.1 ≠ OW ∧ clA x.1 X.1 = false) ∧ Kp [] wc wx) (fun _ s8 _ _ => N - (intOf s8).toNat)
     case atStart => exact ⟨0, by omega, rfl, by simp, Lib.hid (by simp), Kp.refl [] _⟩
     case round =>
      obtain ⟨i, hi, rfl, rfl, Hall, hkx⟩ := hrel
      have HKx := Lib.hid (HK4.out.trans hkx)
      have Hkx := Lib.hid hkx
      have HOx := Lib.hid (HO4.out.kp0 hkx)
      obtain ⟨mn, hmn⟩ : ∃ m, min i P = m := ⟨_, rfl⟩
      rw [hmn]
      have Hmn := Lib.hid hmn
      clear hkx hmn
      obtain ⟨f1, f2, f3⟩ := HF.out wr HKx.out
      have t0 := (cell_of_row _ _ 0 _ _ _ f1)
      simp only [List.getElem?_toArray, List.getElem?_cons_zero] at t0
      clear f1 f2 f3
      by_cases hlt : i < N
      ·have hli : (i : Int) < (N : Int) := by omega
       have hl0 : (0 : Int) ≤ (i : Int) := by omega
       obtain ⟨x, hx⟩ : ∃ x, l[i]? = some x := ⟨l[i]'(by rw [HN.out]; exact hlt), List.getElem?_eq_getElem _⟩
       obtain ⟨g, o, rfl, hg, hr⟩ := HRow.out i x hx
       have Hran := Lib.hid (hr.at_ i x hx)
       have Hx := Lib.hid hx
       have Hxm := Lib.hid (List.mem_of_getElem? hx)
       have Hxd := Lib.hid (show (l.map (·.1))[i]? = some x.1 from by rw [List.getElem?_map, hx]; rfl)
       have Horg := Lib.hid (orgL_org HVA.out.tidy hx)
       have Hol := Lib.hid (show (orgL l x.1.idx).length ≤ 1000000 from by have := orgL_len l x.1.idx; have := HN.out; omega)
       clear hx hr hg
       go_upto_region 16 with fail
       have hdr := (Kp.refl [] wr).drew 1
       refine wp_region_held_drew (S := fun W => Kp [] wr W) (by kernel_rfl) hdr (fun hHeld => ?_)
       refine wpAnyH_take (i := 0) (oi := { dst := some 58, op := Op.load 29 (Operand.tmp 2), type := 29, pos := "ref.go:201", after := #[], guard := none }) (v := .agg #[.slice (some ⟨g, o, none⟩) N c]) rfl (by kernel_rfl) (by kernel_rfl) (by kernel_rfl) (fun _ _ _ h => h) (Or.inl ⟨by rfl, fun w hSw => by (try dsimp only at hSw); have t0 := (cell_of_row _ _ 0 _ _ _ (HF.out _ (HKx.out.trans hSw)).1); simp only [List.getElem?_toArray, List.getElem?_cons_zero] at t0; go_simp⟩) hHeld ?_
       try simp only [Act.put, List.setIfInBounds_toArray, List.set_cons_zero, List.set_cons_succ]
       refine wpAnyH_take (i := 1) (oi := { dst := some 59, op := Op.fieldAddr 29 (Operand.tmp 2) 0, type := 0, pos := "ref.go:201", after := #[], guard := none }) (v := .pointer (some ⟨Bz, 0, none⟩)) rfl (by kernel_rfl) (by kernel_rfl) (by kernel_rfl) (fun _ _ _ h => h) (Or.inl ⟨by rfl, fun w hSw => by (try dsimp only at hSw); go_simp⟩) hHeld ?_
       try simp only [Act.put, List.setIfInBounds_toArray, List.set_cons_zero, List.set_cons_succ]
       refine wpAnyH_take (i := 2) (oi := { dst := some 60, op := Op.load 22 (Operand.tmp 59), type := 22, pos := "ref.go:201", after := #[{ on := 1, ground := Ground.data }], guard := none }) (v := .slice (some ⟨g, o, none⟩) N c) rfl (by kernel_rfl) (by kernel_rfl) (by kernel_rfl) (fun _ _ _ h => h) (Or.inl ⟨by rfl, fun w hSw => by (try dsimp only at hSw); have t0 := (cell_of_row _ _ 0 _ _ _ (HF.out _ (HKx.out.trans hSw)).1); simp only [List.getElem?_toArray, List.getElem?_cons_zero] at t0; go_simp⟩) hHeld ?_
       try simp only [Act.put, List.setIfInBounds_toArray, List.set_cons_zero, List.set_cons_succ]
       refine wpAnyH_take (i := 3) (oi := { dst := some 61, op := Op.move (Operand.tmp 8), type := 3, pos := "ref.go:201", after := #[], guard := none }) (v := .int .i64 (i : Int)) rfl (by kernel_rfl) (by kernel_rfl) (by kernel_rfl) (fun _ _ _ h => h) (Or.inl ⟨by rfl, fun w hSw => by (try dsimp only at hSw); go_simp⟩) hHeld ?_
       try simp only [Act.put, List.setIfInBounds_toArray, List.set_cons_zero, List.set_cons_succ]
       refine wpAnyH_take (i := 4) (oi := { dst := some 62, op := Op.indexAddr 22 (Operand.tmp 60) (Operand.tmp 61), type := 0, pos := "ref.go:201", after := #[{ on := 2, ground := Ground.data }, { on := 3, ground := Ground.data }], guard := none }) (v := .pointer (some ⟨g, o + i * 10, none⟩)) rfl (by kernel_rfl) (by kernel_rfl) (by kernel_rfl) (fun _ _ _ h => h) (Or.inl ⟨by rfl, fun w hSw => by (try dsimp only at hSw); go_simp⟩) hHeld ?_
       try simp only [Act.put, List.setIfInBounds_toArray, List.set_cons_zero, List.set_cons_succ]
       refine wpAnyH_take (i := 5) (oi := { dst := some 63, op := Op.fieldAddr 34 (Operand.tmp 62) 0, type := 0, pos := "ref.go:201", after := #[{ on := 4, ground := Ground.data }], guard := none }) (v := .pointer (some ⟨g, o + i * 10, none⟩)) rfl (by kernel_rfl) (by kernel_rfl) (by kernel_rfl) (fun _ _ _ h => h) (Or.inl ⟨by rfl, fun w hSw => by (try dsimp only at hSw); go_simp⟩) hHeld ?_
       try simp only [Act.put, List.setIfInBounds_toArray, List.set_cons_zero, List.set_cons_succ]
       refine wpAnyH_take (i := 6) (oi := { dst := some 64, op := Op.load 3 (Operand.tmp 63), type := 3, pos := "ref.go:201", after := #[{ on := 5, ground := Ground.data }], guard := none }) (v := .int .i64 x.1.idx) rfl (by kernel_rfl) (by kernel_rfl) (by kernel_rfl) (fun _ _ _ h => h) (Or.inl ⟨by rfl, fun w hSw => by (try dsimp only at hSw); obtain ⟨d0, -, -, -, -, -⟩ := De.dvC_cells (range_kp Hran.out (HK0.out.trans (HKx.out.trans hSw))); go_simp⟩) hHeld ?_
       try simp only [Act.put, List.setIfInBounds_toArray, List.set_cons_zero, List.set_cons_succ]
       refine wpAnyH_take (i := 8) (oi := { dst := some 66, op := Op.move (Operand.tmp 6), type := 62, pos := "ref.go:201", after := #[], guard := none }) (v := .slice va M vc) rfl (by kernel_rfl) (by kernel_rfl) (by kernel_rfl) (fun _ _ _ h => h) (Or.inl ⟨by rfl, fun w hSw => by (try dsimp only at hSw); go_simp⟩) hHeld ?_
       try simp only [Act.put, List.setIfInBounds_toArray, List.set_cons_zero, List.set_cons_succ]
       refine wpAnyH_ready (rs := [7]) (by kernel_rfl) (by simp) ?_
       refine AllReadyH.cons (o := { dst := some 65, op := Op.call { callee := Callee.value (Operand.func 57), args := #[Operand.tmp 58, Operand.tmp 64], argTypes := #[29, 3] }, type := 62, pos := "ref.go:201", after := #[{ on := 0, ground := Ground.data }, { on := 6, ground := Ground.data }], guard := none }) rfl (fun K hK => ?_) AllReadyH.nil
       go_simp
       go_at_call 57
       refine Calls.mono (by with_reducible exact HOR.out x.1.idx _ (HK0.out.trans (HKx.out.trans hHeld))) ?_
       rintro e W5 ⟨u, rfl, hown, hk5⟩
       dsimp only
       have HO5 := Lib.hid hown.has
       have hH := hHeld.trans hk5
       clear hown hk5
       clear hHeld
       refine hK.out _ _ hH (fun hHeld => ?_)
       try simp only [Act.put, List.setIfInBounds_toArray, List.set_cons_zero, List.set_cons_succ]
       clear hK
       refine wpAnyH_ready (rs := [9]) (by kernel_rfl) (by simp) ?_
       refine AllReadyH.cons (o := { dst := some 67, op := Op.call { callee := Callee.value (Operand.func 58), args := #[Operand.tmp 65, Operand.tmp 66], argTypes := #[62, 62] }, type := 3, pos := "ref.go:201", after := #[{ on := 7, ground := Ground.data }, { on := 8, ground := Ground.data }, { on := 7, ground := Ground.chain }], guard := none }) rfl (fun K hK => ?_) AllReadyH.nil
       go_simp
       go_at_call 58
       refine Calls.mono (by with_reducible exact refCompare_any u (.slice va M vc) (orgL l x.1.idx) OW _ Hol.out HMl.out HO5.out (HOx.out.has.kp0 hHeld)) ?_
       rintro e W6 ⟨rfl, nd, rfl⟩
       dsimp only
       have hH := hHeld.trans ((Kp.refl [] W5).drew nd)
       generalize W5.drewN nd = w7 at *
       clear hHeld
       refine hK.out _ _ hH (fun hHeld => ?_)
       try simp only [Act.put, List.setIfInBounds_toArray, List.set_cons_zero, List.set_cons_succ]
       clear hK
       refine wpAnyH_ready (rs := [10]) (by kernel_rfl) (by simp) ?_
       refine AllReadyH.cons (o := { dst := some 9, op := Op.assign (Operand.tmp 67), type := 3, pos := "ref.go:201", after := #[{ on := 9, ground := Ground.data }, { on := 9, ground := Ground.chain }, { on := 0, ground := Ground.phase }, { on := 1, ground := Ground.phase }, { on := 2, ground := Ground.phase }, { on := 3, ground := Ground.phase }, { on := 4, ground := Ground.phase }, { on := 5, ground := Ground.phase }, { on := 6, ground := Ground.phase }, { on := 7, ground := Ground.phase }, { on := 8, ground := Ground.phase }, { on := 9, ground := Ground.phase }], guard := none }) rfl (fun K hK => ?_) AllReadyH.nil
       have HK7 := Lib.hid hHeld
       go_simp
       clear hHeld
       refine hK.out _ _ HK7.out (fun hHeld => ?_)
       try simp only [Act.put, List.setIfInBounds_toArray, List.set_cons_zero, List.set_cons_succ]
       clear hK
       refine wpAnyH_done (by kernel_rfl) ?_ _
       clear hHeld
       obtain ⟨cz, hcz⟩ : ∃ z, De.cmpN (orgL l x.1.idx) OW = z := ⟨_, rfl⟩
       rw [hcz]
       have Hlt := Lib.hid (show cz < 0 ↔ i < P from by
        rw [← hcz, Horg.out, ← HP.out]
        exact (HVA.out.place_lt OW Hxd.out).symm)
       have Heq := Lib.hid (show cz = 0 ↔ De.org (l.map (·.1)) x.1 = OW from by
        rw [← hcz, Horg.out]
        exact ⟨De.cmpN_eq, fun e => by rw [e]; exact De.cmpN_self _⟩)
       clear hcz
       go_upto_region 17 with fail
       have hdr := (Kp.refl [] w7).drew 1
       have HKy := Lib.hid (HKx.out.trans HK7.out)
       by_cases q0 : cz = 0
       ·have HT := Lib.hid (show insT (l.map (·.1)) X.1 = 44 from by
         unfold insT
         rw [if_neg (by rw [HT1.out]; simp), if_neg (by rw [HT2.out]; simp), if_neg HT3.out, if_neg HT4.out, if_neg HT5.out, if_pos (by
          rw [List.any_eq_true]
          exact ⟨x.1, List.mem_of_getElem? Hxd.out, by rw [HOX.out, Heq.out.1 q0]; simp⟩)])
        subst q0
        refine wp_region_held_drew (S := fun W => Kp [] w7 W) (by kernel_rfl) hdr (fun hHeld => ?_)
        refine wpAnyH_take (i := 0) (oi := { dst := some 68, op := Op.move (Operand.tmp 9), type := 3, pos := "ref.go:202", after := #[], guard := none }) (v := .int .i64 0) rfl (by kernel_rfl) (by kernel_rfl) (by kernel_rfl) (fun _ _ _ h => h) (Or.inl ⟨by rfl, fun w hSw => by (try dsimp only at hSw); go_simp⟩) hHeld ?_
        try simp only [Act.put, List.setIfInBounds_toArray, List.set_cons_zero, List.set_cons_succ]
        refine wpAnyH_take (i := 1) (oi := { dst := some 69, op := Op.binOp BinOp.eql 3 (Operand.tmp 68) (Operand.const (Value.int IntKind.i64 0)) 3, type := 4, pos := "ref.go:202", after := #[{ on := 0, ground := Ground.data }], guard := none }) (v := .bool true) rfl (by kernel_rfl) (by kernel_rfl) (by kernel_rfl) (fun _ _ _ h => h) (Or.inl ⟨by rfl, fun w hSw => by (try dsimp only at hSw); go_simp⟩) hHeld ?_
        try simp only [Act.put, List.setIfInBounds_toArray, List.set_cons_zero, List.set_cons_succ]
        refine wpAnyH_take (i := 2) (oi := { dst := some 70, op := Op.move (Operand.tmp 69), type := 4, pos := "ref.go:202", after := #[{ on := 1, ground := Ground.data }], guard := none }) (v := .bool true) rfl (by kernel_rfl) (by kernel_rfl) (by kernel_rfl) (fun _ _ _ h => h) (Or.inl ⟨by rfl, fun w hSw => by (try dsimp only at hSw); go_simp⟩) hHeld ?_
        try simp only [Act.put, List.setIfInBounds_toArray, List.set_cons_zero, List.set_cons_succ]
        refine wpAnyH_take (i := 3) (oi := { dst := some 71, op := Op.fieldAddr 29 (Operand.tmp 2) 0, type := 0, pos := "ref.go:202", after := #[{ on := 2, ground := Ground.guard }], guard := some (2, false) }) (v := undef) rfl (by kernel_rfl) (by kernel_rfl) (by kernel_rfl) (fun _ _ _ h => h) (Or.inr ⟨by rfl, rfl⟩) hHeld ?_
        try simp only [Act.put, List.setIfInBounds_toArray, List.set_cons_zero, List.set_cons_succ]
        refine wpAnyH_take (i := 4) (oi := { dst := some 72, op := Op.load 22 (Operand.tmp 71), type := 22, pos := "ref.go:202", after := #[{ on := 3, ground := Ground.data }, { on := 2, ground := Ground.guard }], guard := some (2, false) }) (v := undef) rfl (by kernel_rfl) (by kernel_rfl) (by kernel_rfl) (fun _ _ _ h => h) (Or.inr ⟨by rfl, rfl⟩) hHeld ?_
        try simp only [Act.put, List.setIfInBounds_toArray, List.set_cons_zero, List.set_cons_succ]
        refine wpAnyH_take (i := 5) (oi := { dst := some 73, op := Op.move (Operand.tmp 8), type := 3, pos := "ref.go:202", after := #[{ on := 2, ground := Ground.guard }], guard := some (2, false) }) (v := undef) rfl (by kernel_rfl) (by kernel_rfl) (by kernel_rfl) (fun _ _ _ h => h) (Or.inr ⟨by rfl, rfl⟩) hHeld ?_
        try simp only [Act.put, List.setIfInBounds_toArray, List.set_cons_zero, List.set_cons_succ]
        refine wpAnyH_take (i := 6) (oi := { dst := some 74, op := Op.indexAddr 22 (Operand.tmp 72) (Operand.tmp 73), type := 0, pos := "ref.go:202", after := #[{ on := 4, ground := Ground.data }, { on := 5, ground := Ground.data }, { on := 2, ground := Ground.guard }], guard := some (2, false) }) (v := undef) rfl (by kernel_rfl) (by kernel_rfl) (by kernel_rfl) (fun _ _ _ h => h) (Or.inr ⟨by rfl, rfl⟩) hHeld ?_
        try simp only [Act.put, List.setIfInBounds_toArray, List.set_cons_zero, List.set_cons_succ]
        refine wpAnyH_take (i := 7) (oi := { dst := some 75, op := Op.load 34 (Operand.tmp 74), type := 34, pos := "ref.go:202", after := #[{ on := 6, ground := Ground.data }, { on := 2, ground := Ground.guard }], guard := some (2, false) }) (v := undef) rfl (by kernel_rfl) (by kernel_rfl) (by kernel_rfl) (fun _ _ _ h => h) (Or.inr ⟨by rfl, rfl⟩) hHeld ?_
        try simp only [Act.put, List.setIfInBounds_toArray, List.set_cons_zero, List.set_cons_succ]
        refine wpAnyH_take (i := 8) (oi := { dst := some 76, op := Op.load 34 (Operand.tmp 3), type := 34, pos := "ref.go:202", after := #[{ on := 2, ground := Ground.guard }], guard := some (2, false) }) (v := undef) rfl (by kernel_rfl) (by kernel_rfl) (by kernel_rfl) (fun _ _ _ h => h) (Or.inr ⟨by rfl, rfl⟩) hHeld ?_
        try simp only [Act.put, List.setIfInBounds_toArray, List.set_cons_zero, List.set_cons_succ]
        refine wpAnyH_take (i := 9) (oi := { dst := some 77, op := Op.call { callee := Callee.value (Operand.func 59), args := #[Operand.tmp 75, Operand.tmp 76], argTypes := #[34, 34] }, type := 4, pos := "ref.go:202", after := #[{ on := 7, ground := Ground.data }, { on := 8, ground := Ground.data }, { on := 2, ground := Ground.chain }, { on := 2, ground := Ground.guard }], guard := some (2, false) }) (v := undef) rfl (by kernel_rfl) (by kernel_rfl) (by kernel_rfl) (fun _ _ _ h => h) (Or.inr ⟨by rfl, rfl⟩) hHeld ?_
        try simp only [Act.put, List.setIfInBounds_toArray, List.set_cons_zero, List.set_cons_succ]
        refine wpAnyH_take (i := 10) (oi := { dst := some 78, op := Op.pick (Operand.tmp 70) (Operand.const (Value.bool true)) (Operand.tmp 77), type := 4, pos := "ref.go:202", after := #[{ on := 2, ground := Ground.data }, { on := 9, ground := Ground.data }], guard := none }) (v := .bool true) rfl (by kernel_rfl) (by kernel_rfl) (by kernel_rfl) (fun _ _ _ h => h) (Or.inl ⟨by rfl, fun w hSw => by (try dsimp only at hSw); go_simp⟩) hHeld ?_
        try simp only [Act.put, List.setIfInBounds_toArray, List.set_cons_zero, List.set_cons_succ]
        have HKf := Lib.hid hHeld
        refine wpAnyH_done (by kernel_rfl) ?_ _
        clear hHeld
        go_upto_region 18 with fail
        have HKz := Lib.hid (HKy.out.trans HKf.out)
        have HR1 := Lib.hid (HF.out _ HKz.out).2.2
        go_wp2_with (refine wpList_store_row rfl 29 _ _ rfl (Bz + 2) #[.slice none 0 0] rfl rfl 29 #[.slice none 0 0] HR1.out info30b rfl one30 ?_)
        exact bodyPost_ret (v := .tuple #[.agg #[.slice none 0 0], .int .i64 44]) (De.results_row_tmp rfl _ _ (Bz + 2) 29 #[.slice none 0 0] _ _ _ rfl rfl (setRow_heap _ _ _ _ _ _ HR1.out) Tryz.underlying29 rfl info30b) rfl (ins_err (HK0.out.trans HKz.out) Hwz.out HT.out (by decide))
       ·have q0f : (cz == 0) = false := beq_eq_false_iff_ne.2 q0
        have Hne := Lib.hid (show De.org (l.map (·.1)) x.1 ≠ OW from fun e => q0 (Heq.out.2 e))
        have HCx := Lib.hid (fun W (hk : Kp [] w W) => HCL.out x Hxm.out W hk)
        have HCe := Lib.hid (HCX.out x)
        obtain ⟨cb, hcb⟩ : ∃ b, clA x.1 X.1 = b := ⟨_, rfl⟩
        have Hcb := Lib.hid hcb
        clear hcb q0
        refine wp_region_held_drew (S := fun W => Kp [] w7 W) (by kernel_rfl) hdr (fun hHeld => ?_)
        refine wpAnyH_take (i := 0) (oi := { dst := some 68, op := Op.move (Operand.tmp 9), type := 3, pos := "ref.go:202", after := #[], guard := none }) (v := .int .i64 cz) rfl (by kernel_rfl) (by kernel_rfl) (by kernel_rfl) (fun _ _ _ h => h) (Or.inl ⟨by rfl, fun w hSw => by (try dsimp only at hSw); go_simp⟩) hHeld ?_
        try simp only [Act.put, List.setIfInBounds_toArray, List.set_cons_zero, List.set_cons_succ]
        refine wpAnyH_take (i := 1) (oi := { dst := some 69, op := Op.binOp BinOp.eql 3 (Operand.tmp 68) (Operand.const (Value.int IntKind.i64 0)) 3, type := 4, pos := "ref.go:202", after := #[{ on := 0, ground := Ground.data }], guard := none }) (v := .bool false) rfl (by kernel_rfl) (by kernel_rfl) (by kernel_rfl) (fun _ _ _ h => h) (Or.inl ⟨by rfl, fun w hSw => by (try dsimp only at hSw); go_simp⟩) hHeld ?_
        try simp only [Act.put, List.setIfInBounds_toArray, List.set_cons_zero, List.set_cons_succ]
        refine wpAnyH_take (i := 2) (oi := { dst := some 70, op := Op.move (Operand.tmp 69), type := 4, pos := "ref.go:202", after := #[{ on := 1, ground := Ground.data }], guard := none }) (v := .bool false) rfl (by kernel_rfl) (by kernel_rfl) (by kernel_rfl) (fun _ _ _ h => h) (Or.inl ⟨by rfl, fun w hSw => by (try dsimp only at hSw); go_simp⟩) hHeld ?_
        try simp only [Act.put, List.setIfInBounds_toArray, List.set_cons_zero, List.set_cons_succ]
        refine wpAnyH_take (i := 3) (oi := { dst := some 71, op := Op.fieldAddr 29 (Operand.tmp 2) 0, type := 0, pos := "ref.go:202", after := #[{ on := 2, ground := Ground.guard }], guard := some (2, false) }) (v := .pointer (some ⟨Bz, 0, none⟩)) rfl (by kernel_rfl) (by kernel_rfl) (by kernel_rfl) (fun _ _ _ h => h) (Or.inl ⟨by rfl, fun w hSw => by (try dsimp only at hSw); go_simp⟩) hHeld ?_
        try simp only [Act.put, List.setIfInBounds_toArray, List.set_cons_zero, List.set_cons_succ]
        refine wpAnyH_take (i := 4) (oi := { dst := some 72, op := Op.load 22 (Operand.tmp 71), type := 22, pos := "ref.go:202", after := #[{ on := 3, ground := Ground.data }, { on := 2, ground := Ground.guard }], guard := some (2, false) }) (v := .slice (some ⟨g, o, none⟩) N c) rfl (by kernel_rfl) (by kernel_rfl) (by kernel_rfl) (fun _ _ _ h => h) (Or.inl ⟨by rfl, fun w hSw => by (try dsimp only at hSw); have t0 := (cell_of_row _ _ 0 _ _ _ (HF.out _ (HKy.out.trans hSw)).1); simp only [List.getElem?_toArray, List.getElem?_cons_zero] at t0; go_simp⟩) hHeld ?_
        try simp only [Act.put, List.setIfInBounds_toArray, List.set_cons_zero, List.set_cons_succ]
        refine wpAnyH_take (i := 5) (oi := { dst := some 73, op := Op.move (Operand.tmp 8), type := 3, pos := "ref.go:202", after := #[{ on := 2, ground := Ground.guard }], guard := some (2, false) }) (v := .int .i64 (i : Int)) rfl (by kernel_rfl) (by kernel_rfl) (by kernel_rfl) (fun _ _ _ h => h) (Or.inl ⟨by rfl, fun w hSw => by (try dsimp only at hSw); go_simp⟩) hHeld ?_
        try simp only [Act.put, List.setIfInBounds_toArray, List.set_cons_zero, List.set_cons_succ]
        refine wpAnyH_take (i := 6) (oi := { dst := some 74, op := Op.indexAddr 22 (Operand.tmp 72) (Operand.tmp 73), type := 0, pos := "ref.go:202", after := #[{ on := 4, ground := Ground.data }, { on := 5, ground := Ground.data }, { on := 2, ground := Ground.guard }], guard := some (2, false) }) (v := .pointer (some ⟨g, o + i * 10, none⟩)) rfl (by kernel_rfl) (by kernel_rfl) (by kernel_rfl) (fun _ _ _ h => h) (Or.inl ⟨by rfl, fun w hSw => by (try dsimp only at hSw); go_simp⟩) hHeld ?_
        try simp only [Act.put, List.setIfInBounds_toArray, List.set_cons_zero, List.set_cons_succ]
        refine wpAnyH_take (i := 7) (oi := { dst := some 75, op := Op.load 34 (Operand.tmp 74), type := 34, pos := "ref.go:202", after := #[{ on := 6, ground := Ground.data }, { on := 2, ground := Ground.guard }], guard := some (2, false) }) (v := .agg #[.int .i64 x.1.idx, .int .i64 x.1.par, .string x.1.name, .string x.1.orig, .string x.1.sub, .string x.1.drv, .string x.1.ali, .int .i64 x.1.kind, .int .i64 x.1.num, x.2]) rfl (by kernel_rfl) (by kernel_rfl) (by kernel_rfl) (fun _ _ _ h => h) (Or.inl ⟨by rfl, fun w hSw => by (try dsimp only at hSw); obtain ⟨d0, d1, d2, d3, d4, d5, d6, d7, d8, d9⟩ := dvC_all (range_kp Hran.out (HK0.out.trans (HKy.out.trans hSw))); go_simp⟩) hHeld ?_
        try simp only [Act.put, List.setIfInBounds_toArray, List.set_cons_zero, List.set_cons_succ]
        refine wpAnyH_take (i := 8) (oi := { dst := some 76, op := Op.load 34 (Operand.tmp 3), type := 34, pos := "ref.go:202", after := #[{ on := 2, ground := Ground.guard }], guard := some (2, false) }) (v := .agg #[.int .i64 di, .int .i64 dp, .string dn, .string do_, .string du, .string dd, .string dl, .int .i64 dk, .int .i64 dm, dv]) rfl (by kernel_rfl) (by kernel_rfl) (by kernel_rfl) (fun _ _ _ h => h) (Or.inl ⟨by rfl, fun w hSw => by (try dsimp only at hSw); have dc := (HF.out _ (HKy.out.trans hSw)).2.1.cell; go_simp⟩) hHeld ?_
        try simp only [Act.put, List.setIfInBounds_toArray, List.set_cons_zero, List.set_cons_succ]
        refine wpAnyH_ready (rs := [9]) (by kernel_rfl) (by simp) ?_
        refine AllReadyH.cons (o := { dst := some 77, op := Op.call { callee := Callee.value (Operand.func 59), args := #[Operand.tmp 75, Operand.tmp 76], argTypes := #[34, 34] }, type := 4, pos := "ref.go:202", after := #[{ on := 7, ground := Ground.data }, { on := 8, ground := Ground.data }, { on := 2, ground := Ground.chain }, { on := 2, ground := Ground.guard }], guard := some (2, false) }) rfl (fun K hK => ?_) AllReadyH.nil
        go_simp
        go_at_call 59
        refine Calls.mono (by with_reducible exact HCx.out _ (HK0.out.trans (HKy.out.trans hHeld))) ?_
        rintro e W8 ⟨rfl, hb8⟩
        dsimp only
        have hH := hHeld.trans (Kp.of_bel hb8)
        clear hb8
        rw [HCe.out, Hcb.out]
        clear hHeld
        refine hK.out _ _ hH (fun hHeld => ?_)
        try simp only [Act.put, List.setIfInBounds_toArray, List.set_cons_zero, List.set_cons_succ]
        clear hK
        refine wpAnyH_take (i := 10) (oi := { dst := some 78, op := Op.pick (Operand.tmp 70) (Operand.const (Value.bool true)) (Operand.tmp 77), type := 4, pos := "ref.go:202", after := #[{ on := 2, ground := Ground.data }, { on := 9, ground := Ground.data }], guard := none }) (v := .bool cb) rfl (by kernel_rfl) (by kernel_rfl) (by kernel_rfl) (fun _ _ _ h => h) (Or.inl ⟨by rfl, fun w hSw => by (try dsimp only at hSw); go_simp⟩) hHeld ?_
        try simp only [Act.put, List.setIfInBounds_toArray, List.set_cons_zero, List.set_cons_succ]
        have HKf := Lib.hid hHeld
        refine wpAnyH_done (by kernel_rfl) ?_ _
        clear hHeld
        cases cb with
        | true =>
         have HT := Lib.hid (show insT (l.map (·.1)) X.1 = 44 from by
          unfold insT
          rw [if_neg (by rw [HT1.out]; simp), if_neg (by rw [HT2.out]; simp), if_neg HT3.out, if_neg HT4.out, if_neg HT5.out, if_pos (by
           rw [List.any_eq_true]
           exact ⟨x.1, List.mem_of_getElem? Hxd.out, by rw [Hcb.out]; simp⟩)])
         go_upto_region 18 with fail
         have HKz := Lib.hid (HKy.out.trans HKf.out)
         have HR1 := Lib.hid (HF.out _ HKz.out).2.2
         go_wp2_with (refine wpList_store_row rfl 29 _ _ rfl (Bz + 2) #[.slice none 0 0] rfl rfl 29 #[.slice none 0 0] HR1.out info30b rfl one30 ?_)
         exact bodyPost_ret (v := .tuple #[.agg #[.slice none 0 0], .int .i64 44]) (De.results_row_tmp rfl _ _ (Bz + 2) 29 #[.slice none 0 0] _ _ _ rfl rfl (setRow_heap _ _ _ _ _ _ HR1.out) Tryz.underlying29 rfl info30b) rfl (ins_err (HK0.out.trans HKz.out) Hwz.out HT.out (by decide))
        | false =>
         have Hall2 := Lib.hid (show ∀ y ∈ l.take (i + 1), De.org (l.map (·.1)) y.1 ≠ OW ∧ clA y.1 X.1 = false from fun y hy => by
          rw [List.take_add_one, Hx.out] at hy
          rcases List.mem_append.1 hy with hy | hy
          ·exact Hall.out y hy
          ·rw [show y = x by simpa using hy]
           exact ⟨Hne.out, Hcb.out⟩)
         have HKz := Lib.hid (Hkx.out.trans (HK7.out.trans HKf.out))
         by_cases ql : cz < 0
         ·have hiP := Hlt.out.1 ql
          have Hm2 := Lib.hid (show ((i : Int) + 1) = ((min (i + 1) P : Nat) : Int) from by omega)
          go_wp2
          exact ⟨⟨i + 1, by omega, by go_num, by rw [← Hm2.out], Hall2, HKz.out⟩, by (simp [intOf] <;> omega)⟩
         ·have hiP : ¬ i < P := fun h => ql (Hlt.out.2 h)
          have Hm2 := Lib.hid (show mn = min (i + 1) P from by rw [← Hmn.out]; omega)
          go_wp2
          exact ⟨⟨i + 1, by omega, by go_num, by rw [Hm2.out], Hall2, HKz.out⟩, by (simp [intOf] <;> omega)⟩
      ·obtain rfl : i = N := by omega
       have hli : ¬ (i : Int) < (i : Int) := by omega
       have Hmp := Lib.hid (show mn = P from by rw [← Hmn.out]; have := HPN.out; omega)
       have HT := Lib.hid (show insT (l.map (·.1)) X.1 = 0 from by
        unfold insT
        rw [if_neg (by rw [HT1.out]; simp), if_neg (by rw [HT2.out]; simp), if_neg HT3.out, if_neg HT4.out, if_neg HT5.out, if_neg (by
         rw [List.any_eq_true]
         rintro ⟨y, hy, hyb⟩
         obtain ⟨z, hz, rfl⟩ := List.mem_map.1 hy
         have := Hall.out z (by rw [List.take_of_length_le (by rw [HN.out]; exact Nat.le_refl _)]; exact hz)
         rw [HOX.out, this.2, Bool.or_false, beq_iff_eq] at hyb
         exact this.1 hyb)])
       go_upto_region 22 with fail
       have hmp := Hmp.out
       subst hmp
       have hqs := World.size_alloc wr (.cells #[.slice none 0 0] 29)
       have hq := heap_alloc_last wr (.cells #[.slice none 0 0] 29)
       have hka := HKx.out.alloc (.cells #[.slice none 0 0] 29)
       obtain ⟨Q, hQ⟩ : ∃ Q, wr.heap.size = Q := ⟨_, rfl⟩
       generalize wr.alloc (.cells #[.slice none 0 0] 29) = wq at *
       rw [hQ] at hq hqs ⊢
       have HBQ := Lib.hid (show Bz + 3 ≤ Q from by have := HKx.out.size; have := HS0.out; omega)
       have HQs := Lib.hid hqs
       have HKq := Lib.hid hka
       have HQ0 := Lib.hid hq
       have hdr := hka.drew 1
       clear hq hqs hka t0 hQ
       have hP0 : (0 : Int) ≤ (mn : Int) := by omega
       have hPN : (mn : Int) ≤ (i : Int) := by have := HPN.out; omega
       rcases HSV.out with ⟨hs1, hs2⟩ | ⟨g, o, c', hs1, hc, hg, hr⟩
       ·obtain ⟨rfl, rfl, rfl⟩ : a = none ∧ i = 0 ∧ c = 0 := by
         injection hs1 with e1 e2 e3
         exact ⟨e1, e2, e3⟩
        obtain rfl : mn = 0 := by omega
        have HY1 := Lib.hid (show ∀ W, Kp [] W0 W → De.DHas W (.slice none 0 0) (l.take 0) from fun W hk => .inl ⟨none, 0, rfl, by simp⟩)
        have HY2 := Lib.hid (show ∀ W, Kp [] W0 W → De.DHas W (.slice none 0 0) (l.drop 0) from fun W hk => .inl ⟨none, 0, rfl, by rw [hs2]; rfl⟩)
        clear hs1 hs2
        refine wp_region_held_drew (S := fun W => Kp [] W0 W) (by kernel_rfl) hdr (fun hHeld => ?_)
        generalize hwd : wq.drew = wd at *
        have HWD := Lib.hid (show Kp [] wq wd from by rw [← hwd]; exact (Kp.refl [] wq).drew 1)
        have HWs := Lib.hid (show wd.heap.size = Q + 1 from by rw [← hwd]; exact HQs.out)
        have HKd := Lib.hid (Kp.refl [] wd)
        have HQd := Lib.hid (show wd.heap[Q]? = some (.cells #[.slice none 0 0] 29 (0, 0)) from by rw [← hwd]; exact HQ0.out)
        clear hwd
        refine wpAnyH_take (i := 0) (oi := { dst := some 84, op := Op.fieldAddr 29 (Operand.tmp 10) 0, type := 0, pos := "ref.go:210", after := #[], guard := none }) (v := .pointer (some ⟨Q, 0, none⟩)) rfl (by kernel_rfl) (by kernel_rfl) (by kernel_rfl) (fun _ _ _ h => h) (Or.inl ⟨by rfl, fun w hSw => by (try dsimp only at hSw); go_simp⟩) hHeld ?_
        try simp only [Act.put, List.setIfInBounds_toArray, List.set_cons_zero, List.set_cons_succ]
        refine wpAnyH_take (i := 2) (oi := { dst := some 86, op := Op.fieldAddr 29 (Operand.tmp 2) 0, type := 0, pos := "ref.go:210", after := #[], guard := none }) (v := .pointer (some ⟨Bz, 0, none⟩)) rfl (by kernel_rfl) (by kernel_rfl) (by kernel_rfl) (fun _ _ _ h => h) (Or.inl ⟨by rfl, fun w hSw => by (try dsimp only at hSw); go_simp⟩) hHeld ?_
        try simp only [Act.put, List.setIfInBounds_toArray, List.set_cons_zero, List.set_cons_succ]
        refine wpAnyH_take (i := 3) (oi := { dst := some 87, op := Op.load 22 (Operand.tmp 86), type := 22, pos := "ref.go:210", after := #[{ on := 2, ground := Ground.data }], guard := none }) (v := .slice none 0 0) rfl (by kernel_rfl) (by kernel_rfl) (by kernel_rfl) (fun _ _ _ h => h) (Or.inl ⟨by rfl, fun w hSw => by (try dsimp only at hSw); have t0 := (cell_of_row _ _ 0 _ _ _ (HF.out _ hSw).1); simp only [List.getElem?_toArray, List.getElem?_cons_zero] at t0; go_simp⟩) hHeld ?_
        try simp only [Act.put, List.setIfInBounds_toArray, List.set_cons_zero, List.set_cons_succ]
        refine wpAnyH_take (i := 4) (oi := { dst := some 88, op := Op.move (Operand.tmp 7), type := 3, pos := "ref.go:210", after := #[], guard := none }) (v := .int .i64 ((0 : Nat) : Int)) rfl (by kernel_rfl) (by kernel_rfl) (by kernel_rfl) (fun _ _ _ h => h) (Or.inl ⟨by rfl, fun w hSw => by (try dsimp only at hSw); go_simp⟩) hHeld ?_
        try simp only [Act.put, List.setIfInBounds_toArray, List.set_cons_zero, List.set_cons_succ]
        refine wpAnyH_take (i := 5) (oi := { dst := some 89, op := Op.slice 22 (Operand.tmp 87) none (some (Operand.tmp 88)) none, type := 22, pos := "ref.go:210", after := #[{ on := 3, ground := Ground.data }, { on := 4, ground := Ground.data }], guard := none }) (v := .slice none 0 0) rfl (by kernel_rfl) (by kernel_rfl) (by kernel_rfl) (fun _ _ _ h => h) (Or.inl ⟨by rfl, fun w hSw => by (try dsimp only at hSw); go_simp⟩) hHeld ?_
        try simp only [Act.put, List.setIfInBounds_toArray, List.set_cons_zero, List.set_cons_succ]
        refine wpAnyH_take (i := 7) (oi := { dst := some 91, op := Op.load 34 (Operand.tmp 3), type := 34, pos := "ref.go:210", after := #[], guard := none }) (v := .agg #[.int .i64 di, .int .i64 dp, .string dn, .string do_, .string du, .string dd, .string dl, .int .i64 dk, .int .i64 dm, dv]) rfl (by kernel_rfl) (by kernel_rfl) (by kernel_rfl) (fun _ _ _ h => h) (Or.inl ⟨by rfl, fun w hSw => by (try dsimp only at hSw); have dc := (HF.out _ hSw).2.1.cell; go_simp⟩) hHeld ?_
        try simp only [Act.put, List.setIfInBounds_toArray, List.set_cons_zero, List.set_cons_succ]
        refine wpAnyH_take (i := 10) (oi := { dst := some 94, op := Op.fieldAddr 29 (Operand.tmp 2) 0, type := 0, pos := "ref.go:210", after := #[], guard := none }) (v := .pointer (some ⟨Bz, 0, none⟩)) rfl (by kernel_rfl) (by kernel_rfl) (by kernel_rfl) (fun _ _ _ h => h) (Or.inl ⟨by rfl, fun w hSw => by (try dsimp only at hSw); go_simp⟩) hHeld ?_
        try simp only [Act.put, List.setIfInBounds_toArray, List.set_cons_zero, List.set_cons_succ]
        refine wpAnyH_take (i := 11) (oi := { dst := some 95, op := Op.load 22 (Operand.tmp 94), type := 22, pos := "ref.go:210", after := #[{ on := 10, ground := Ground.data }], guard := none }) (v := .slice none 0 0) rfl (by kernel_rfl) (by kernel_rfl) (by kernel_rfl) (fun _ _ _ h => h) (Or.inl ⟨by rfl, fun w hSw => by (try dsimp only at hSw); have t0 := (cell_of_row _ _ 0 _ _ _ (HF.out _ hSw).1); simp only [List.getElem?_toArray, List.getElem?_cons_zero] at t0; go_simp⟩) hHeld ?_
        try simp only [Act.put, List.setIfInBounds_toArray, List.set_cons_zero, List.set_cons_succ]
        refine wpAnyH_take (i := 12) (oi := { dst := some 96, op := Op.move (Operand.tmp 7), type := 3, pos := "ref.go:210", after := #[], guard := none }) (v := .int .i64 ((0 : Nat) : Int)) rfl (by kernel_rfl) (by kernel_rfl) (by kernel_rfl) (fun _ _ _ h => h) (Or.inl ⟨by rfl, fun w hSw => by (try dsimp only at hSw); go_simp⟩) hHeld ?_
        try simp only [Act.put, List.setIfInBounds_toArray, List.set_cons_zero, List.set_cons_succ]
        refine wpAnyH_take (i := 13) (oi := { dst := some 97, op := Op.slice 22 (Operand.tmp 95) (some (Operand.tmp 96)) none none, type := 22, pos := "ref.go:210", after := #[{ on := 11, ground := Ground.data }, { on := 12, ground := Ground.data }], guard := none }) (v := .slice none 0 0) rfl (by kernel_rfl) (by kernel_rfl) (by kernel_rfl) (fun _ _ _ h => h) (Or.inl ⟨by rfl, fun w hSw => by (try dsimp only at hSw); go_simp⟩) hHeld ?_
        try simp only [Act.put, List.setIfInBounds_toArray, List.set_cons_zero, List.set_cons_succ]
        refine wpAnyH_ready (rs := [1, 8]) (by kernel_rfl) (by simp) ?_
        refine AllReadyH.cons (o := { dst := some 85, op := Op.load 22 (Operand.tmp 84), type := 22, pos := "ref.go:210", after := #[{ on := 0, ground := Ground.data }], guard := none }) rfl (fun K hK => ?_) (AllReadyH.cons (o := { dst := some 92, op := Op.buildSlice 22 1 #[(0, Operand.tmp 91)], type := 22, pos := "ref.go:210", after := #[{ on := 7, ground := Ground.data }], guard := none }) rfl (fun K hK => ?_) AllReadyH.nil)
        ·skip
         have q0 := cell_one HQd.out
         go_simp
         clear q0
         have hS := hHeld
         clear hHeld
         refine hK.out _ _ hS (fun hHeld => ?_)
         try simp only [Act.put, List.setIfInBounds_toArray, List.set_cons_zero, List.set_cons_succ]
         clear hK
         refine wpAnyH_ready (rs := [6, 8]) (by kernel_rfl) (by simp) ?_
         refine AllReadyH.cons (o := { dst := some 90, op := Op.call { callee := Callee.builtin Builtin.append, args := #[Operand.tmp 85, Operand.tmp 89], argTypes := #[22, 22] }, type := 22, pos := "ref.go:210", after := #[{ on := 1, ground := Ground.data }, { on := 5, ground := Ground.data }], guard := none }) rfl (fun K hK => ?_) (AllReadyH.cons (o := { dst := some 92, op := Op.buildSlice 22 1 #[(0, Operand.tmp 91)], type := 22, pos := "ref.go:210", after := #[{ on := 7, ground := Ground.data }], guard := none }) rfl (fun K hK => ?_) AllReadyH.nil)
         ·skip
          obtain ⟨v6, w6, hrun, how, hgr⟩ := run_append_dvs (w := wd) (base := Q + 1) (v := .slice none 0 0) (xs := []) (ys := l.take 0) (ty := 22) (World.ownsRow_nil _ _ _ _) (HY1.out _ hHeld) (by have := HN.out; rw [List.length_take]; show 0 + min _ _ ≤ _; omega) (by have := HKd.out.size; have := HWs.out; omega)
          have HR := Lib.hid hrun
          have HO6 := Lib.hid how
          have hkn : Kp [] wd w6 := kp_grownS (Kp.refl [] _) hgr (fun b hb => by cases hb)
          have HK6 := Lib.hid (HKd.out.trans hkn)
          have HQ6 := Lib.hid ((hkn.block Q (block_lt HQd.out) (by simp)).trans HQd.out)
          have hS := hHeld.trans hkn
          clear hrun how hgr hkn
          refine step_append_run rfl _ _ rfl _ _ _ rfl rfl HR.out ?_
          clear hHeld
          refine hK.out _ _ hS (fun hHeld => ?_)
          try simp only [Act.put, List.setIfInBounds_toArray, List.set_cons_zero, List.set_cons_succ]
          clear hK
          clear HR
          refine wpAnyH_ready (rs := [8]) (by kernel_rfl) (by simp) ?_
          refine AllReadyH.cons (o := { dst := some 92, op := Op.buildSlice 22 1 #[(0, Operand.tmp 91)], type := 22, pos := "ref.go:210", after := #[{ on := 7, ground := Ground.data }], guard := none }) rfl (fun K hK => ?_) AllReadyH.nil
          go_simp
          have hkn := (Kp.refl [] w6).alloc (.cells #[.int .i64 di, .int .i64 dp, .string dn, .string do_, .string du, .string dd, .string dl, .int .i64 dk, .int .i64 dm, dv] 34)
          have hg8 := heap_alloc_last w6 (.cells #[.int .i64 di, .int .i64 dp, .string dn, .string do_, .string du, .string dd, .string dl, .int .i64 dk, .int .i64 dm, dv] 34)
          generalize w6.alloc (.cells #[.int .i64 di, .int .i64 dp, .string dn, .string do_, .string du, .string dd, .string dl, .int .i64 dk, .int .i64 dm, dv] 34) = w8 at *
          have HK8 := Lib.hid (HK6.out.trans hkn)
          have HQ8 := Lib.hid ((hkn.block Q (block_lt HQ6.out) (by simp)).trans HQ6.out)
          have HG8 := Lib.hid (show w8.heap[w6.heap.size]? = some (.cells (De.dvC X.1 X.2).toArray 34 (0, 0)) from by rw [← HX.out]; exact hg8)
          have HO8 := Lib.hid (ownsRow_keep HO6.out fun b hB hb => hkn.block b (HO6.out.lt b hb).2 (by simp))
          have hS := hHeld.trans hkn
          clear hkn hg8
          clear hHeld
          refine hK.out _ _ hS (fun hHeld => ?_)
          try simp only [Act.put, List.setIfInBounds_toArray, List.set_cons_zero, List.set_cons_succ]
          clear hK
          refine wpAnyH_ready (rs := [9]) (by kernel_rfl) (by simp) ?_
          refine AllReadyH.cons (o := { dst := some 93, op := Op.call { callee := Callee.builtin Builtin.append, args := #[Operand.tmp 90, Operand.tmp 92], argTypes := #[22, 22] }, type := 22, pos := "ref.go:210", after := #[{ on := 6, ground := Ground.data }, { on := 8, ground := Ground.data }, { on := 6, ground := Ground.chain }], guard := none }) rfl (fun K hK => ?_) AllReadyH.nil
          obtain ⟨v9, w9, hrun, how, hgr⟩ := run_append_dvs (w := w8) (base := Q + 1) (v := v6) (xs := l.take 0) (ys := [X]) (ty := 22) HO8.out (one_row HG8.out (by rw [← HX.out]; exact HD.out.below (HK0.out.trans hHeld).bel)) (by have := HN.out; rw [List.length_take]; show min _ _ + 1 ≤ _; omega) (by have := HK8.out.size; have := HWs.out; omega)
          have HR := Lib.hid hrun
          have Hw9O := Lib.hid how
          have hkn : Kp [] wd w9 := kp_grownS HK8.out hgr (fun b hb => by have := (HO8.out.lt b hb).1; have := HWs.out; omega)
          have hkS : Kp [] W0 w9 := kp_grownS hHeld hgr (fun b hb => by have := (HO8.out.lt b hb).1; have := HBQ.out; have := HS0.out; omega)
          have Hw9K := Lib.hid hkn
          have Hw9Q := Lib.hid ((hkn.block Q (by have := HWs.out; omega) (by simp)).trans HQd.out)
          clear hrun how hgr hkn
          refine step_append_run rfl _ _ rfl _ _ _ rfl rfl HR.out ?_
          clear hHeld
          refine hK.out _ _ hkS (fun hHeld => ?_)
          try simp only [Act.put, List.setIfInBounds_toArray, List.set_cons_zero, List.set_cons_succ]
          clear hK
          clear HR
          refine wpAnyH_ready (rs := [14]) (by kernel_rfl) (by simp) ?_
          refine AllReadyH.cons (o := { dst := some 98, op := Op.call { callee := Callee.builtin Builtin.append, args := #[Operand.tmp 93, Operand.tmp 97], argTypes := #[22, 22] }, type := 22, pos := "ref.go:210", after := #[{ on := 9, ground := Ground.data }, { on := 13, ground := Ground.data }, { on := 9, ground := Ground.chain }], guard := none }) rfl (fun K hK => ?_) AllReadyH.nil
          obtain ⟨vt, wt, hrun, how, hgr⟩ := run_append_dvs (w := w9) (base := Q + 1) (v := v9) (xs := l.take 0 ++ [X]) (ys := l.drop 0) (ty := 22) Hw9O.out (HY2.out _ hHeld) (by have := HN.out; rw [List.length_append, List.length_take, List.length_drop]; show min _ _ + 1 + (_ - _) ≤ _; omega) (by have := Hw9K.out.size; have := HWs.out; omega)
          have HR := Lib.hid hrun
          have HwtO := Lib.hid how
          have hkn : Kp [] wd wt := kp_grownS Hw9K.out hgr (fun b hb => by have := (Hw9O.out.lt b hb).1; have := HWs.out; omega)
          have hkS : Kp [] W0 wt := kp_grownS hHeld hgr (fun b hb => by have := (Hw9O.out.lt b hb).1; have := HBQ.out; have := HS0.out; omega)
          have HwtK := Lib.hid hkn
          have HwtQ := Lib.hid ((hkn.block Q (by have := HWs.out; omega) (by simp)).trans HQd.out)
          clear hrun how hgr hkn
          refine step_append_run rfl _ _ rfl _ _ _ rfl rfl HR.out ?_
          clear hHeld
          refine hK.out _ _ hkS (fun hHeld => ?_)
          try simp only [Act.put, List.setIfInBounds_toArray, List.set_cons_zero, List.set_cons_succ]
          clear hK
          clear HR
          obtain ⟨ta, tn, tc, htf⟩ := ownsRow_form HwtO.out
          subst htf
          refine wpAnyH_take (i := 15) (oi := { dst := some 99, op := Op.fieldAddr 29 (Operand.tmp 10) 0, type := 0, pos := "ref.go:210", after := #[{ on := 0, ground := Ground.phase }, { on := 1, ground := Ground.phase }, { on := 2, ground := Ground.phase }, { on := 3, ground := Ground.phase }, { on := 4, ground := Ground.phase }, { on := 5, ground := Ground.phase }, { on := 6, ground := Ground.phase }, { on := 7, ground := Ground.phase }, { on := 8, ground := Ground.phase }, { on := 9, ground := Ground.phase }, { on := 10, ground := Ground.phase }, { on := 11, ground := Ground.phase }, { on := 12, ground := Ground.phase }, { on := 13, ground := Ground.phase }, { on := 14, ground := Ground.phase }], guard := none }) (v := .pointer (some ⟨Q, 0, none⟩)) rfl (by kernel_rfl) (by kernel_rfl) (by kernel_rfl) (fun _ _ _ h => h) (Or.inl ⟨by rfl, fun w hSw => by (try dsimp only at hSw); go_simp⟩) hHeld ?_
          try simp only [Act.put, List.setIfInBounds_toArray, List.set_cons_zero, List.set_cons_succ]
          refine wpAnyH_ready (rs := [16]) (by kernel_rfl) (by simp) ?_
          refine AllReadyH.cons (o := { dst := none, op := Op.store 22 (Operand.tmp 99) (Operand.tmp 98), type := 0, pos := "ref.go:210", after := #[{ on := 15, ground := Ground.data }, { on := 14, ground := Ground.data }, { on := 14, ground := Ground.chain }, { on := 0, ground := Ground.phase }, { on := 1, ground := Ground.phase }, { on := 2, ground := Ground.phase }, { on := 3, ground := Ground.phase }, { on := 4, ground := Ground.phase }, { on := 5, ground := Ground.phase }, { on := 6, ground := Ground.phase }, { on := 7, ground := Ground.phase }, { on := 8, ground := Ground.phase }, { on := 9, ground := Ground.phase }, { on := 10, ground := Ground.phase }, { on := 11, ground := Ground.phase }, { on := 12, ground := Ground.phase }, { on := 13, ground := Ground.phase }, { on := 14, ground := Ground.phase }], guard := none }) rfl (fun K hK => ?_) AllReadyH.nil
          have q0 := cell_one HwtQ.out
          have qf := frz_one HwtQ.out
          go_simp
          have HQe := Lib.hid (set_one (v := (.slice ta tn tc)) HwtQ.out)
          have hS := hHeld.setCell (p := ⟨Q, 0, none⟩) (.inr (by have := HBQ.out; have := HS0.out; show W0.heap.size ≤ Q; omega)) (.slice ta tn tc)
          have HKe := Lib.hid hS
          have Hce := Lib.hid (show ∀ b, b ≠ Q → (wt.setCell ⟨Q, 0, none⟩ (.slice ta tn tc)).heap[b]? = wt.heap[b]? from fun b hb => Below.heap_setCell _ _ _ _ hb)
          generalize wt.setCell ⟨Q, 0, none⟩ (.slice ta tn tc) = we at *
          clear q0 qf
          clear hHeld
          refine hK.out _ _ hS (fun hHeld => ?_)
          try simp only [Act.put, List.setIfInBounds_toArray, List.set_cons_zero, List.set_cons_succ]
          clear hK
          refine wpAnyH_done (by kernel_rfl) ?_ _
          clear hHeld
          have HR1 := Lib.hid (HF.out _ HKe.out).2.2
          have H1e := Lib.hid (ownsRow_one HwtO.out)
          go_wp2_with (first
           | (refine wpList_load_row rfl 29 _ rfl Q rfl 29 #[(.slice ta tn tc)] (0, 0) _ HQe.out Tryz.underlying29 rfl info30b ?_)
           | (refine wpList_store_row rfl 29 _ _ rfl (Bz + 2) #[(.slice ta tn tc)] rfl rfl 29 #[.slice none 0 0] HR1.out info30b rfl H1e.out ?_))
          have hkF : Kp [] w (we.setRow (Bz + 2) #[(.slice ta tn tc)]) := (HK0.out.trans HKe.out).setRow (.inr Hwz.out) _
          refine bodyPost_ret (v := .tuple #[.agg #[(.slice ta tn tc)], .int .i64 0]) (De.results_row_tmp rfl _ _ (Bz + 2) 29 #[(.slice ta tn tc)] _ _ _ rfl rfl (setRow_heap _ _ _ _ _ _ HR1.out) Tryz.underlying29 rfl info30b) rfl ⟨hkF, (.slice ta tn tc), insD l X, by rw [HT.out], DOwn.any (B := Q + 1) ⟨?_, ?_⟩, .inr ⟨HT.out, rfl⟩, fun b hb => by have := (HwtO.out.lt b hb).1; have := HBQ.out; have := HBz.out; omega⟩
          ·have e : insD l X = l.take 0 ++ [X] ++ l.drop 0 := by unfold insD; rw [HOX.out, HP.out]; simp
           rw [e]
           exact ownsRow_keep HwtO.out fun b hB hb => (setRow_other we (Bz + 2) b _ (by have := HBQ.out; omega)).trans (Hce.out b (by omega))
          ·intro y hy
           have hy2 : y ∈ l ∨ y = X := by
            unfold insD at hy
            rcases List.mem_append.1 hy with hy | hy
            ·exact .inl (List.mem_of_mem_take hy)
            ·rcases List.mem_cons.1 hy with hy | hy
             ·exact .inr hy
             ·exact .inl (List.mem_of_mem_drop hy)
           rcases hy2 with hy2 | rfl
           ·exact (HSV.out.has.below hkF.bel).ats y hy2
           ·rw [← HX.out]
            exact HD.out.below hkF.bel
         ·skip
          go_simp
          have hkn := (Kp.refl [] wd).alloc (.cells #[.int .i64 di, .int .i64 dp, .string dn, .string do_, .string du, .string dd, .string dl, .int .i64 dk, .int .i64 dm, dv] 34)
          have hg8 := heap_alloc_last wd (.cells #[.int .i64 di, .int .i64 dp, .string dn, .string do_, .string du, .string dd, .string dl, .int .i64 dk, .int .i64 dm, dv] 34)
          generalize wd.alloc (.cells #[.int .i64 di, .int .i64 dp, .string dn, .string do_, .string du, .string dd, .string dl, .int .i64 dk, .int .i64 dm, dv] 34) = w8 at *
          have HK8 := Lib.hid (HKd.out.trans hkn)
          have HQ8 := Lib.hid ((hkn.block Q (block_lt HQd.out) (by simp)).trans HQd.out)
          have HG8 := Lib.hid (show w8.heap[wd.heap.size]? = some (.cells (De.dvC X.1 X.2).toArray 34 (0, 0)) from by rw [← HX.out]; exact hg8)
          have hS := hHeld.trans hkn
          clear hkn hg8
          clear hHeld
          refine hK.out _ _ hS (fun hHeld => ?_)
          try simp only [Act.put, List.setIfInBounds_toArray, List.set_cons_zero, List.set_cons_succ]
          clear hK
          refine wpAnyH_ready (rs := [6]) (by kernel_rfl) (by simp) ?_
          refine AllReadyH.cons (o := { dst := some 90, op := Op.call { callee := Callee.builtin Builtin.append, args := #[Operand.tmp 85, Operand.tmp 89], argTypes := #[22, 22] }, type := 22, pos := "ref.go:210", after := #[{ on := 1, ground := Ground.data }, { on := 5, ground := Ground.data }], guard := none }) rfl (fun K hK => ?_) AllReadyH.nil
          obtain ⟨v6, w6, hrun, how, hgr⟩ := run_append_dvs (w := w8) (base := Q + 1) (v := .slice none 0 0) (xs := []) (ys := l.take 0) (ty := 22) (World.ownsRow_nil _ _ _ _) (HY1.out _ hHeld) (by have := HN.out; rw [List.length_take]; show 0 + min _ _ ≤ _; omega) (by have := HK8.out.size; have := HWs.out; omega)
          have HR := Lib.hid hrun
          have HO6 := Lib.hid how
          have hkn : Kp [] w8 w6 := kp_grownS (Kp.refl [] _) hgr (fun b hb => by cases hb)
          have HK6 := Lib.hid (HK8.out.trans hkn)
          have HQ6 := Lib.hid ((hkn.block Q (block_lt HQ8.out) (by simp)).trans HQ8.out)
          have HG6 := Lib.hid ((hkn.block _ (block_lt HG8.out) (by simp)).trans HG8.out)
          have hS := hHeld.trans hkn
          clear hrun how hgr hkn
          refine step_append_run rfl _ _ rfl _ _ _ rfl rfl HR.out ?_
          clear hHeld
          refine hK.out _ _ hS (fun hHeld => ?_)
          try simp only [Act.put, List.setIfInBounds_toArray, List.set_cons_zero, List.set_cons_succ]
          clear hK
          clear HR
          refine wpAnyH_ready (rs := [9]) (by kernel_rfl) (by simp) ?_
          refine AllReadyH.cons (o := { dst := some 93, op := Op.call { callee := Callee.builtin Builtin.append, args := #[Operand.tmp 90, Operand.tmp 92], argTypes := #[22, 22] }, type := 22, pos := "ref.go:210", after := #[{ on := 6, ground := Ground.data }, { on := 8, ground := Ground.data }, { on := 6, ground := Ground.chain }], guard := none }) rfl (fun K hK => ?_) AllReadyH.nil
          obtain ⟨v9, w9, hrun, how, hgr⟩ := run_append_dvs (w := w6) (base := Q + 1) (v := v6) (xs := l.take 0) (ys := [X]) (ty := 22) HO6.out (one_row HG6.out (by rw [← HX.out]; exact HD.out.below (HK0.out.trans hHeld).bel)) (by have := HN.out; rw [List.length_take]; show min _ _ + 1 ≤ _; omega) (by have := HK6.out.size; have := HWs.out; omega)
          have HR := Lib.hid hrun
          have Hw9O := Lib.hid how
          have hkn : Kp [] wd w9 := kp_grownS HK6.out hgr (fun b hb => by have := (HO6.out.lt b hb).1; have := HWs.out; omega)
          have hkS : Kp [] W0 w9 := kp_grownS hHeld hgr (fun b hb => by have := (HO6.out.lt b hb).1; have := HBQ.out; have := HS0.out; omega)
          have Hw9K := Lib.hid hkn
          have Hw9Q := Lib.hid ((hkn.block Q (by have := HWs.out; omega) (by simp)).trans HQd.out)
          clear hrun how hgr hkn
          refine step_append_run rfl _ _ rfl _ _ _ rfl rfl HR.out ?_
          clear hHeld
          refine hK.out _ _ hkS (fun hHeld => ?_)
          try simp only [Act.put, List.setIfInBounds_toArray, List.set_cons_zero, List.set_cons_succ]
          clear hK
          clear HR
          refine wpAnyH_ready (rs := [14]) (by kernel_rfl) (by simp) ?_
          refine AllReadyH.cons (o := { dst := some 98, op := Op.call { callee := Callee.builtin Builtin.append, args := #[Operand.tmp 93, Operand.tmp 97], argTypes := #[22, 22] }, type := 22, pos := "ref.go:210", after := #[{ on := 9, ground := Ground.data }, { on := 13, ground := Ground.data }, { on := 9, ground := Ground.chain }], guard := none }) rfl (fun K hK => ?_) AllReadyH.nil
          obtain ⟨vt, wt, hrun, how, hgr⟩ := run_append_dvs (w := w9) (base := Q + 1) (v := v9) (xs := l.take 0 ++ [X]) (ys := l.drop 0) (ty := 22) Hw9O.out (HY2.out _ hHeld) (by have := HN.out; rw [List.length_append, List.length_take, List.length_drop]; show min _ _ + 1 + (_ - _) ≤ _; omega) (by have := Hw9K.out.size; have := HWs.out; omega)
          have HR := Lib.hid hrun
          have HwtO := Lib.hid how
          have hkn : Kp [] wd wt := kp_grownS Hw9K.out hgr (fun b hb => by have := (Hw9O.out.lt b hb).1; have := HWs.out; omega)
          have hkS : Kp [] W0 wt := kp_grownS hHeld hgr (fun b hb => by have := (Hw9O.out.lt b hb).1; have := HBQ.out; have := HS0.out; omega)
          have HwtK := Lib.hid hkn
          have HwtQ := Lib.hid ((hkn.block Q (by have := HWs.out; omega) (by simp)).trans HQd.out)
          clear hrun how hgr hkn
          refine step_append_run rfl _ _ rfl _ _ _ rfl rfl HR.out ?_
          clear hHeld
          refine hK.out _ _ hkS (fun hHeld => ?_)
          try simp only [Act.put, List.setIfInBounds_toArray, List.set_cons_zero, List.set_cons_succ]
          clear hK
          clear HR
          obtain ⟨ta, tn, tc, htf⟩ := ownsRow_form HwtO.out
          subst htf
          refine wpAnyH_take (i := 15) (oi := { dst := some 99, op := Op.fieldAddr 29 (Operand.tmp 10) 0, type := 0, pos := "ref.go:210", after := #[{ on := 0, ground := Ground.phase }, { on := 1, ground := Ground.phase }, { on := 2, ground := Ground.phase }, { on := 3, ground := Ground.phase }, { on := 4, ground := Ground.phase }, { on := 5, ground := Ground.phase }, { on := 6, ground := Ground.phase }, { on := 7, ground := Ground.phase }, { on := 8, ground := Ground.phase }, { on := 9, ground := Ground.phase }, { on := 10, ground := Ground.phase }, { on := 11, ground := Ground.phase }, { on := 12, ground := Ground.phase }, { on := 13, ground := Ground.phase }, { on := 14, ground := Ground.phase }], guard := none }) (v := .pointer (some ⟨Q, 0, none⟩)) rfl (by kernel_rfl) (by kernel_rfl) (by kernel_rfl) (fun _ _ _ h => h) (Or.inl ⟨by rfl, fun w hSw => by (try dsimp only at hSw); go_simp⟩) hHeld ?_
          try simp only [Act.put, List.setIfInBounds_toArray, List.set_cons_zero, List.set_cons_succ]
          refine wpAnyH_ready (rs := [16]) (by kernel_rfl) (by simp) ?_
          refine AllReadyH.cons (o := { dst := none, op := Op.store 22 (Operand.tmp 99) (Operand.tmp 98), type := 0, pos := "ref.go:210", after := #[{ on := 15, ground := Ground.data }, { on := 14, ground := Ground.data }, { on := 14, ground := Ground.chain }, { on := 0, ground := Ground.phase }, { on := 1, ground := Ground.phase }, { on := 2, ground := Ground.phase }, { on := 3, ground := Ground.phase }, { on := 4, ground := Ground.phase }, { on := 5, ground := Ground.phase }, { on := 6, ground := Ground.phase }, { on := 7, ground := Ground.phase }, { on := 8, ground := Ground.phase }, { on := 9, ground := Ground.phase }, { on := 10, ground := Ground.phase }, { on := 11, ground := Ground.phase }, { on := 12, ground := Ground.phase }, { on := 13, ground := Ground.phase }, { on := 14, ground := Ground.phase }], guard := none }) rfl (fun K hK => ?_) AllReadyH.nil
          have q0 := cell_one HwtQ.out
          have qf := frz_one HwtQ.out
          go_simp
          have HQe := Lib.hid (set_one (v := (.slice ta tn tc)) HwtQ.out)
          have hS := hHeld.setCell (p := ⟨Q, 0, none⟩) (.inr (by have := HBQ.out; have := HS0.out; show W0.heap.size ≤ Q; omega)) (.slice ta tn tc)
          have HKe := Lib.hid hS
          have Hce := Lib.hid (show ∀ b, b ≠ Q → (wt.setCell ⟨Q, 0, none⟩ (.slice ta tn tc)).heap[b]? = wt.heap[b]? from fun b hb => Below.heap_setCell _ _ _ _ hb)
          generalize wt.setCell ⟨Q, 0, none⟩ (.slice ta tn tc) = we at *
          clear q0 qf
          clear hHeld
          refine hK.out _ _ hS (fun hHeld => ?_)
          try simp only [Act.put, List.setIfInBounds_toArray, List.set_cons_zero, List.set_cons_succ]
          clear hK
          refine wpAnyH_done (by kernel_rfl) ?_ _
          clear hHeld
          have HR1 := Lib.hid (HF.out _ HKe.out).2.2
          have H1e := Lib.hid (ownsRow_one HwtO.out)
          go_wp2_with (first
           | (refine wpList_load_row rfl 29 _ rfl Q rfl 29 #[(.slice ta tn tc)] (0, 0) _ HQe.out Tryz.underlying29 rfl info30b ?_)
           | (refine wpList_store_row rfl 29 _ _ rfl (Bz + 2) #[(.slice ta tn tc)] rfl rfl 29 #[.slice none 0 0] HR1.out info30b rfl H1e.out ?_))
          have hkF : Kp [] w (we.setRow (Bz + 2) #[(.slice ta tn tc)]) := (HK0.out.trans HKe.out).setRow (.inr Hwz.out) _
          refine bodyPost_ret (v := .tuple #[.agg #[(.slice ta tn tc)], .int .i64 0]) (De.results_row_tmp rfl _ _ (Bz + 2) 29 #[(.slice ta tn tc)] _ _ _ rfl rfl (setRow_heap _ _ _ _ _ _ HR1.out) Tryz.underlying29 rfl info30b) rfl ⟨hkF, (.slice ta tn tc), insD l X, by rw [HT.out], DOwn.any (B := Q + 1) ⟨?_, ?_⟩, .inr ⟨HT.out, rfl⟩, fun b hb => by have := (HwtO.out.lt b hb).1; have := HBQ.out; have := HBz.out; omega⟩
          ·have e : insD l X = l.take 0 ++ [X] ++ l.drop 0 := by unfold insD; rw [HOX.out, HP.out]; simp
           rw [e]
           exact ownsRow_keep HwtO.out fun b hB hb => (setRow_other we (Bz + 2) b _ (by have := HBQ.out; omega)).trans (Hce.out b (by omega))
          ·intro y hy
           have hy2 : y ∈ l ∨ y = X := by
            unfold insD at hy
            rcases List.mem_append.1 hy with hy | hy
            ·exact .inl (List.mem_of_mem_take hy)
            ·rcases List.mem_cons.1 hy with hy | hy
             ·exact .inr hy
             ·exact .inl (List.mem_of_mem_drop hy)
           rcases hy2 with hy2 | rfl
           ·exact (HSV.out.has.below hkF.bel).ats y hy2
           ·rw [← HX.out]
            exact HD.out.below hkF.bel
        ·skip
         go_simp
         have hkn := (Kp.refl [] wd).alloc (.cells #[.int .i64 di, .int .i64 dp, .string dn, .string do_, .string du, .string dd, .string dl, .int .i64 dk, .int .i64 dm, dv] 34)
         have hg8 := heap_alloc_last wd (.cells #[.int .i64 di, .int .i64 dp, .string dn, .string do_, .string du, .string dd, .string dl, .int .i64 dk, .int .i64 dm, dv] 34)
         generalize wd.alloc (.cells #[.int .i64 di, .int .i64 dp, .string dn, .string do_, .string du, .string dd, .string dl, .int .i64 dk, .int .i64 dm, dv] 34) = w8 at *
         have HK8 := Lib.hid (HKd.out.trans hkn)
         have HQ8 := Lib.hid ((hkn.block Q (block_lt HQd.out) (by simp)).trans HQd.out)
         have HG8 := Lib.hid (show w8.heap[wd.heap.size]? = some (.cells (De.dvC X.1 X.2).toArray 34 (0, 0)) from by rw [← HX.out]; exact hg8)
         have hS := hHeld.trans hkn
         clear hkn hg8
         clear hHeld
         refine hK.out _ _ hS (fun hHeld => ?_)
         try simp only [Act.put, List.setIfInBounds_toArray, List.set_cons_zero, List.set_cons_succ]
         clear hK
         refine wpAnyH_ready (rs := [1]) (by kernel_rfl) (by simp) ?_
         refine AllReadyH.cons (o := { dst := some 85, op := Op.load 22 (Operand.tmp 84), type := 22, pos := "ref.go:210", after := #[{ on := 0, ground := Ground.data }], guard := none }) rfl (fun K hK => ?_) AllReadyH.nil
         have q0 := cell_one HQ8.out
         go_simp
         clear q0
         have hS := hHeld
         clear hHeld
         refine hK.out _ _ hS (fun hHeld => ?_)
         try simp only [Act.put, List.setIfInBounds_toArray, List.set_cons_zero, List.set_cons_succ]
         clear hK
         refine wpAnyH_ready (rs := [6]) (by kernel_rfl) (by simp) ?_
         refine AllReadyH.cons (o := { dst := some 90, op := Op.call { callee := Callee.builtin Builtin.append, args := #[Operand.tmp 85, Operand.tmp 89], argTypes := #[22, 22] }, type := 22, pos := "ref.go:210", after := #[{ on := 1, ground := Ground.data }, { on := 5, ground := Ground.data }], guard := none }) rfl (fun K hK => ?_) AllReadyH.nil
         obtain ⟨v6, w6, hrun, how, hgr⟩ := run_append_dvs (w := w8) (base := Q + 1) (v := .slice none 0 0) (xs := []) (ys := l.take 0) (ty := 22) (World.ownsRow_nil _ _ _ _) (HY1.out _ hHeld) (by have := HN.out; rw [List.length_take]; show 0 + min _ _ ≤ _; omega) (by have := HK8.out.size; have := HWs.out; omega)
         have HR := Lib.hid hrun
         have HO6 := Lib.hid how
         have hkn : Kp [] w8 w6 := kp_grownS (Kp.refl [] _) hgr (fun b hb => by cases hb)
         have HK6 := Lib.hid (HK8.out.trans hkn)
         have HQ6 := Lib.hid ((hkn.block Q (block_lt HQ8.out) (by simp)).trans HQ8.out)
         have HG6 := Lib.hid ((hkn.block _ (block_lt HG8.out) (by simp)).trans HG8.out)
         have hS := hHeld.trans hkn
         clear hrun how hgr hkn
         refine step_append_run rfl _ _ rfl _ _ _ rfl rfl HR.out ?_
         clear hHeld
         refine hK.out _ _ hS (fun hHeld => ?_)
         try simp only [Act.put, List.setIfInBounds_toArray, List.set_cons_zero, List.set_cons_succ]
         clear hK
         clear HR
         refine wpAnyH_ready (rs := [9]) (by kernel_rfl) (by simp) ?_
         refine AllReadyH.cons (o := { dst := some 93, op := Op.call { callee := Callee.builtin Builtin.append, args := #[Operand.tmp 90, Operand.tmp 92], argTypes := #[22, 22] }, type := 22, pos := "ref.go:210", after := #[{ on := 6, ground := Ground.data }, { on := 8, ground := Ground.data }, { on := 6, ground := Ground.chain }], guard := none }) rfl (fun K hK => ?_) AllReadyH.nil
         obtain ⟨v9, w9, hrun, how, hgr⟩ := run_append_dvs (w := w6) (base := Q + 1) (v := v6) (xs := l.take 0) (ys := [X]) (ty := 22) HO6.out (one_row HG6.out (by rw [← HX.out]; exact HD.out.below (HK0.out.trans hHeld).bel)) (by have := HN.out; rw [List.length_take]; show min _ _ + 1 ≤ _; omega) (by have := HK6.out.size; have := HWs.out; omega)
         have HR := Lib.hid hrun
         have Hw9O := Lib.hid how
         have hkn : Kp [] wd w9 := kp_grownS HK6.out hgr (fun b hb => by have := (HO6.out.lt b hb).1; have := HWs.out; omega)
         have hkS : Kp [] W0 w9 := kp_grownS hHeld hgr (fun b hb => by have := (HO6.out.lt b hb).1; have := HBQ.out; have := HS0.out; omega)
         have Hw9K := Lib.hid hkn
         have Hw9Q := Lib.hid ((hkn.block Q (by have := HWs.out; omega) (by simp)).trans HQd.out)
         clear hrun how hgr hkn
         refine step_append_run rfl _ _ rfl _ _ _ rfl rfl HR.out ?_
         clear hHeld
         refine hK.out _ _ hkS (fun hHeld => ?_)
         try simp only [Act.put, List.setIfInBounds_toArray, List.set_cons_zero, List.set_cons_succ]
         clear hK
         clear HR
         refine wpAnyH_ready (rs := [14]) (by kernel_rfl) (by simp) ?_
         refine AllReadyH.cons (o := { dst := some 98, op := Op.call { callee := Callee.builtin Builtin.append, args := #[Operand.tmp 93, Operand.tmp 97], argTypes := #[22, 22] }, type := 22, pos := "ref.go:210", after := #[{ on := 9, ground := Ground.data }, { on := 13, ground := Ground.data }, { on := 9, ground := Ground.chain }], guard := none }) rfl (fun K hK => ?_) AllReadyH.nil
         obtain ⟨vt, wt, hrun, how, hgr⟩ := run_append_dvs (w := w9) (base := Q + 1) (v := v9) (xs := l.take 0 ++ [X]) (ys := l.drop 0) (ty := 22) Hw9O.out (HY2.out _ hHeld) (by have := HN.out; rw [List.length_append, List.length_take, List.length_drop]; show min _ _ + 1 + (_ - _) ≤ _; omega) (by have := Hw9K.out.size; have := HWs.out; omega)
         have HR := Lib.hid hrun
         have HwtO := Lib.hid how
         have hkn : Kp [] wd wt := kp_grownS Hw9K.out hgr (fun b hb => by have := (Hw9O.out.lt b hb).1; have := HWs.out; omega)
         have hkS : Kp [] W0 wt := kp_grownS hHeld hgr (fun b hb => by have := (Hw9O.out.lt b hb).1; have := HBQ.out; have := HS0.out; omega)
         have HwtK := Lib.hid hkn
         have HwtQ := Lib.hid ((hkn.block Q (by have := HWs.out; omega) (by simp)).trans HQd.out)
         clear hrun how hgr hkn
         refine step_append_run rfl _ _ rfl _ _ _ rfl rfl HR.out ?_
         clear hHeld
         refine hK.out _ _ hkS (fun hHeld => ?_)
         try simp only [Act.put, List.setIfInBounds_toArray, List.set_cons_zero, List.set_cons_succ]
         clear hK
         clear HR
         obtain ⟨ta, tn, tc, htf⟩ := ownsRow_form HwtO.out
         subst htf
         refine wpAnyH_take (i := 15) (oi := { dst := some 99, op := Op.fieldAddr 29 (Operand.tmp 10) 0, type := 0, pos := "ref.go:210", after := #[{ on := 0, ground := Ground.phase }, { on := 1, ground := Ground.phase }, { on := 2, ground := Ground.phase }, { on := 3, ground := Ground.phase }, { on := 4, ground := Ground.phase }, { on := 5, ground := Ground.phase }, { on := 6, ground := Ground.phase }, { on := 7, ground := Ground.phase }, { on := 8, ground := Ground.phase }, { on := 9, ground := Ground.phase }, { on := 10, ground := Ground.phase }, { on := 11, ground := Ground.phase }, { on := 12, ground := Ground.phase }, { on := 13, ground := Ground.phase }, { on := 14, ground := Ground.phase }], guard := none }) (v := .pointer (some ⟨Q, 0, none⟩)) rfl (by kernel_rfl) (by kernel_rfl) (by kernel_rfl) (fun _ _ _ h => h) (Or.inl ⟨by rfl, fun w hSw => by (try dsimp only at hSw); go_simp⟩) hHeld ?_
         try simp only [Act.put, List.setIfInBounds_toArray, List.set_cons_zero, List.set_cons_succ]
         refine wpAnyH_ready (rs := [16]) (by kernel_rfl) (by simp) ?_
         refine AllReadyH.cons (o := { dst := none, op := Op.store 22 (Operand.tmp 99) (Operand.tmp 98), type := 0, pos := "ref.go:210", after := #[{ on := 15, ground := Ground.data }, { on := 14, ground := Ground.data }, { on := 14, ground := Ground.chain }, { on := 0, ground := Ground.phase }, { on := 1, ground := Ground.phase }, { on := 2, ground := Ground.phase }, { on := 3, ground := Ground.phase }, { on := 4, ground := Ground.phase }, { on := 5, ground := Ground.phase }, { on := 6, ground := Ground.phase }, { on := 7, ground := Ground.phase }, { on := 8, ground := Ground.phase }, { on := 9, ground := Ground.phase }, { on := 10, ground := Ground.phase }, { on := 11, ground := Ground.phase }, { on := 12, ground := Ground.phase }, { on := 13, ground := Ground.phase }, { on := 14, ground := Ground.phase }], guard := none }) rfl (fun K hK => ?_) AllReadyH.nil
         have q0 := cell_one HwtQ.out
         have qf := frz_one HwtQ.out
         go_simp
         have HQe := Lib.hid (set_one (v := (.slice ta tn tc)) HwtQ.out)
         have hS := hHeld.setCell (p := ⟨Q, 0, none⟩) (.inr (by have := HBQ.out; have := HS0.out; show W0.heap.size ≤ Q; omega)) (.slice ta tn tc)
         have HKe := Lib.hid hS
         have Hce := Lib.hid (show ∀ b, b ≠ Q → (wt.setCell ⟨Q, 0, none⟩ (.slice ta tn tc)).heap[b]? = wt.heap[b]? from fun b hb => Below.heap_setCell _ _ _ _ hb)
         generalize wt.setCell ⟨Q, 0, none⟩ (.slice ta tn tc) = we at *
         clear q0 qf
         clear hHeld
         refine hK.out _ _ hS (fun hHeld => ?_)
         try simp only [Act.put, List.setIfInBounds_toArray, List.set_cons_zero, List.set_cons_succ]
         clear hK
         refine wpAnyH_done (by kernel_rfl) ?_ _
         clear hHeld
         have HR1 := Lib.hid (HF.out _ HKe.out).2.2
         have H1e := Lib.hid (ownsRow_one HwtO.out)
         go_wp2_with (first
          | (refine wpList_load_row rfl 29 _ rfl Q rfl 29 #[(.slice ta tn tc)] (0, 0) _ HQe.out Tryz.underlying29 rfl info30b ?_)
          | (refine wpList_store_row rfl 29 _ _ rfl (Bz + 2) #[(.slice ta tn tc)] rfl rfl 29 #[.slice none 0 0] HR1.out info30b rfl H1e.out ?_))
         have hkF : Kp [] w (we.setRow (Bz + 2) #[(.slice ta tn tc)]) := (HK0.out.trans HKe.out).setRow (.inr Hwz.out) _
         refine bodyPost_ret (v := .tuple #[.agg #[(.slice ta tn tc)], .int .i64 0]) (De.results_row_tmp rfl _ _ (Bz + 2) 29 #[(.slice ta tn tc)] _ _ _ rfl rfl (setRow_heap _ _ _ _ _ _ HR1.out) Tryz.underlying29 rfl info30b) rfl ⟨hkF, (.slice ta tn tc), insD l X, by rw [HT.out], DOwn.any (B := Q + 1) ⟨?_, ?_⟩, .inr ⟨HT.out, rfl⟩, fun b hb => by have := (HwtO.out.lt b hb).1; have := HBQ.out; have := HBz.out; omega⟩
         ·have e : insD l X = l.take 0 ++ [X] ++ l.drop 0 := by unfold insD; rw [HOX.out, HP.out]; simp
          rw [e]
          exact ownsRow_keep HwtO.out fun b hB hb => (setRow_other we (Bz + 2) b _ (by have := HBQ.out; omega)).trans (Hce.out b (by omega))
         ·intro y hy
          have hy2 : y ∈ l ∨ y = X := by
           unfold insD at hy
           rcases List.mem_append.1 hy with hy | hy
           ·exact .inl (List.mem_of_mem_take hy)
           ·rcases List.mem_cons.1 hy with hy | hy
            ·exact .inr hy
            ·exact .inl (List.mem_of_mem_drop hy)
          rcases hy2 with hy2 | rfl
          ·exact (HSV.out.has.below hkF.bel).ats y hy2
          ·rw [← HX.out]
           exact HD.out.below hkF.bel
       ·obtain ⟨rfl, rfl⟩ : a = some ⟨g, o, none⟩ ∧ c = c' := by
         injection hs1 with e1 e2 e3
         exact ⟨e1, e3⟩
        have hci : (i : Int) ≤ (c : Int) := by have := HN.out; omega
        have hcm : ¬ c < mn := by have := HN.out; omega
        obtain ⟨o2, ho2⟩ : ∃ q, (if c = mn then o else o + mn * 10) = q := ⟨_, rfl⟩
        have Ho2 := Lib.hid ho2
        clear ho2
        have HY1 := Lib.hid (show ∀ W, Kp [] W0 W → De.DHas W (.slice (some ⟨g, o, none⟩) mn c) (l.take mn) from fun W hk => by
         have hl : (l.take mn).length = mn := by rw [List.length_take, HN.out]; have := HPN.out; omega
         refine .inr ⟨g, o, c, by rw [hl], by rw [hl]; have := HN.out; have := HPN.out; omega, Nat.lt_of_lt_of_le hg (HK0.out.trans hk).size, DRow.take (hr.below hg ((HK0.out.trans hk).bel)) mn⟩)
        have HY2 := Lib.hid (show ∀ W, Kp [] W0 W → De.DHas W (.slice (some ⟨g, o2, none⟩) (i - mn) (c - mn)) (l.drop mn) from fun W hk => by
         have hl : (l.drop mn).length = i - mn := by rw [List.length_drop, HN.out]
         by_cases he : c = mn
         ·have h0 : l.drop mn = [] := List.length_eq_zero_iff.1 (by rw [hl]; have := HN.out; omega)
          exact .inl ⟨some ⟨g, o2, none⟩, c - mn, by rw [show i - mn = 0 by have := HN.out; omega], h0⟩
         have ho : o2 = o + mn * 10 := by rw [← Ho2.out, if_neg he]
         rw [ho]
         refine .inr ⟨g, o + mn * 10, c - mn, by rw [hl], by rw [hl]; have := HN.out; have := HPN.out; omega, Nat.lt_of_lt_of_le hg (HK0.out.trans hk).size, DRow.drop (hr.below hg ((HK0.out.trans hk).bel)) mn⟩)
        clear hs1 hc hg hr
        refine wp_region_held_drew (S := fun W => Kp [] W0 W) (by kernel_rfl) hdr (fun hHeld => ?_)
        generalize hwd : wq.drew = wd at *
        have HWD := Lib.hid (show Kp [] wq wd from by rw [← hwd]; exact (Kp.refl [] wq).drew 1)
        have HWs := Lib.hid (show wd.heap.size = Q + 1 from by rw [← hwd]; exact HQs.out)
        have HKd := Lib.hid (Kp.refl [] wd)
        have HQd := Lib.hid (show wd.heap[Q]? = some (.cells #[.slice none 0 0] 29 (0, 0)) from by rw [← hwd]; exact HQ0.out)
        clear hwd
        refine wpAnyH_take (i := 0) (oi := { dst := some 84, op := Op.fieldAddr 29 (Operand.tmp 10) 0, type := 0, pos := "ref.go:210", after := #[], guard := none }) (v := .pointer (some ⟨Q, 0, none⟩)) rfl (by kernel_rfl) (by kernel_rfl) (by kernel_rfl) (fun _ _ _ h => h) (Or.inl ⟨by rfl, fun w hSw => by (try dsimp only at hSw); go_simp⟩) hHeld ?_
        try simp only [Act.put, List.setIfInBounds_toArray, List.set_cons_zero, List.set_cons_succ]
        refine wpAnyH_take (i := 2) (oi := { dst := some 86, op := Op.fieldAddr 29 (Operand.tmp 2) 0, type := 0, pos := "ref.go:210", after := #[], guard := none }) (v := .pointer (some ⟨Bz, 0, none⟩)) rfl (by kernel_rfl) (by kernel_rfl) (by kernel_rfl) (fun _ _ _ h => h) (Or.inl ⟨by rfl, fun w hSw => by (try dsimp only at hSw); go_simp⟩) hHeld ?_
        try simp only [Act.put, List.setIfInBounds_toArray, List.set_cons_zero, List.set_cons_succ]
        refine wpAnyH_take (i := 3) (oi := { dst := some 87, op := Op.load 22 (Operand.tmp 86), type := 22, pos := "ref.go:210", after := #[{ on := 2, ground := Ground.data }], guard := none }) (v := .slice (some ⟨g, o, none⟩) i c) rfl (by kernel_rfl) (by kernel_rfl) (by kernel_rfl) (fun _ _ _ h => h) (Or.inl ⟨by rfl, fun w hSw => by (try dsimp only at hSw); have t0 := (cell_of_row _ _ 0 _ _ _ (HF.out _ hSw).1); simp only [List.getElem?_toArray, List.getElem?_cons_zero] at t0; go_simp⟩) hHeld ?_
        try simp only [Act.put, List.setIfInBounds_toArray, List.set_cons_zero, List.set_cons_succ]
        refine wpAnyH_take (i := 4) (oi := { dst := some 88, op := Op.move (Operand.tmp 7), type := 3, pos := "ref.go:210", after := #[], guard := none }) (v := .int .i64 (mn : Int)) rfl (by kernel_rfl) (by kernel_rfl) (by kernel_rfl) (fun _ _ _ h => h) (Or.inl ⟨by rfl, fun w hSw => by (try dsimp only at hSw); go_simp⟩) hHeld ?_
        try simp only [Act.put, List.setIfInBounds_toArray, List.set_cons_zero, List.set_cons_succ]
        refine wpAnyH_take (i := 5) (oi := { dst := some 89, op := Op.slice 22 (Operand.tmp 87) none (some (Operand.tmp 88)) none, type := 22, pos := "ref.go:210", after := #[{ on := 3, ground := Ground.data }, { on := 4, ground := Ground.data }], guard := none }) (v := .slice (some ⟨g, o, none⟩) mn c) rfl (by kernel_rfl) (by kernel_rfl) (by kernel_rfl) (fun _ _ _ h => h) (Or.inl ⟨by rfl, fun w hSw => by (try dsimp only at hSw); go_simp⟩) hHeld ?_
        try simp only [Act.put, List.setIfInBounds_toArray, List.set_cons_zero, List.set_cons_succ]
        refine wpAnyH_take (i := 7) (oi := { dst := some 91, op := Op.load 34 (Operand.tmp 3), type := 34, pos := "ref.go:210", after := #[], guard := none }) (v := .agg #[.int .i64 di, .int .i64 dp, .string dn, .string do_, .string du, .string dd, .string dl, .int .i64 dk, .int .i64 dm, dv]) rfl (by kernel_rfl) (by kernel_rfl) (by kernel_rfl) (fun _ _ _ h => h) (Or.inl ⟨by rfl, fun w hSw => by (try dsimp only at hSw); have dc := (HF.out _ hSw).2.1.cell; go_simp⟩) hHeld ?_
        try simp only [Act.put, List.setIfInBounds_toArray, List.set_cons_zero, List.set_cons_succ]
        refine wpAnyH_take (i := 10) (oi := { dst := some 94, op := Op.fieldAddr 29 (Operand.tmp 2) 0, type := 0, pos := "ref.go:210", after := #[], guard := none }) (v := .pointer (some ⟨Bz, 0, none⟩)) rfl (by kernel_rfl) (by kernel_rfl) (by kernel_rfl) (fun _ _ _ h => h) (Or.inl ⟨by rfl, fun w hSw => by (try dsimp only at hSw); go_simp⟩) hHeld ?_
        try simp only [Act.put, List.setIfInBounds_toArray, List.set_cons_zero, List.set_cons_succ]
        refine wpAnyH_take (i := 11) (oi := { dst := some 95, op := Op.load 22 (Operand.tmp 94), type := 22, pos := "ref.go:210", after := #[{ on := 10, ground := Ground.data }], guard := none }) (v := .slice (some ⟨g, o, none⟩) i c) rfl (by kernel_rfl) (by kernel_rfl) (by kernel_rfl) (fun _ _ _ h => h) (Or.inl ⟨by rfl, fun w hSw => by (try dsimp only at hSw); have t0 := (cell_of_row _ _ 0 _ _ _ (HF.out _ hSw).1); simp only [List.getElem?_toArray, List.getElem?_cons_zero] at t0; go_simp⟩) hHeld ?_
        try simp only [Act.put, List.setIfInBounds_toArray, List.set_cons_zero, List.set_cons_succ]
        refine wpAnyH_take (i := 12) (oi := { dst := some 96, op := Op.move (Operand.tmp 7), type := 3, pos := "ref.go:210", after := #[], guard := none }) (v := .int .i64 (mn : Int)) rfl (by kernel_rfl) (by kernel_rfl) (by kernel_rfl) (fun _ _ _ h => h) (Or.inl ⟨by rfl, fun w hSw => by (try dsimp only at hSw); go_simp⟩) hHeld ?_
        try simp only [Act.put, List.setIfInBounds_toArray, List.set_cons_zero, List.set_cons_succ]
        refine wpAnyH_take (i := 13) (oi := { dst := some 97, op := Op.slice 22 (Operand.tmp 95) (some (Operand.tmp 96)) none none, type := 22, pos := "ref.go:210", after := #[{ on := 11, ground := Ground.data }, { on := 12, ground := Ground.data }], guard := none }) (v := .slice (some ⟨g, o2, none⟩) (i - mn) (c - mn)) rfl (by kernel_rfl) (by kernel_rfl) (by kernel_rfl) (fun _ _ _ h => h) (Or.inl ⟨by rfl, fun w hSw => by (try dsimp only at hSw); go_simp; rw [← Ho2.out]; split <;> rfl⟩) hHeld ?_
        try simp only [Act.put, List.setIfInBounds_toArray, List.set_cons_zero, List.set_cons_succ]
        refine wpAnyH_ready (rs := [1, 8]) (by kernel_rfl) (by simp) ?_
        refine AllReadyH.cons (o := { dst := some 85, op := Op.load 22 (Operand.tmp 84), type := 22, pos := "ref.go:210", after := #[{ on := 0, ground := Ground.data }], guard := none }) rfl (fun K hK => ?_) (AllReadyH.cons (o := { dst := some 92, op := Op.buildSlice 22 1 #[(0, Operand.tmp 91)], type := 22, pos := "ref.go:210", after := #[{ on := 7, ground := Ground.data }], guard := none }) rfl (fun K hK => ?_) AllReadyH.nil)
        ·skip
         have q0 := cell_one HQd.out
         go_simp
         clear q0
         have hS := hHeld
         clear hHeld
         refine hK.out _ _ hS (fun hHeld => ?_)
         try simp only [Act.put, List.setIfInBounds_toArray, List.set_cons_zero, List.set_cons_succ]
         clear hK
         refine wpAnyH_ready (rs := [6, 8]) (by kernel_rfl) (by simp) ?_
         refine AllReadyH.cons (o := { dst := some 90, op := Op.call { callee := Callee.builtin Builtin.append, args := #[Operand.tmp 85, Operand.tmp 89], argTypes := #[22, 22] }, type := 22, pos := "ref.go:210", after := #[{ on := 1, ground := Ground.data }, { on := 5, ground := Ground.data }], guard := none }) rfl (fun K hK => ?_) (AllReadyH.cons (o := { dst := some 92, op := Op.buildSlice 22 1 #[(0, Operand.tmp 91)], type := 22, pos := "ref.go:210", after := #[{ on := 7, ground := Ground.data }], guard := none }) rfl (fun K hK => ?_) AllReadyH.nil)
         ·skip
          obtain ⟨v6, w6, hrun, how, hgr⟩ := run_append_dvs (w := wd) (base := Q + 1) (v := .slice none 0 0) (xs := []) (ys := l.take mn) (ty := 22) (World.ownsRow_nil _ _ _ _) (HY1.out _ hHeld) (by have := HN.out; rw [List.length_take]; show 0 + min _ _ ≤ _; omega) (by have := HKd.out.size; have := HWs.out; omega)
          have HR := Lib.hid hrun
          have HO6 := Lib.hid how
          have hkn : Kp [] wd w6 := kp_grownS (Kp.refl [] _) hgr (fun b hb => by cases hb)
          have HK6 := Lib.hid (HKd.out.trans hkn)
          have HQ6 := Lib.hid ((hkn.block Q (block_lt HQd.out) (by simp)).trans HQd.out)
          have hS := hHeld.trans hkn
          clear hrun how hgr hkn
          refine step_append_run rfl _ _ rfl _ _ _ rfl rfl HR.out ?_
          clear hHeld
          refine hK.out _ _ hS (fun hHeld => ?_)
          try simp only [Act.put, List.setIfInBounds_toArray, List.set_cons_zero, List.set_cons_succ]
          clear hK
          clear HR
          refine wpAnyH_ready (rs := [8]) (by kernel_rfl) (by simp) ?_
          refine AllReadyH.cons (o := { dst := some 92, op := Op.buildSlice 22 1 #[(0, Operand.tmp 91)], type := 22, pos := "ref.go:210", after := #[{ on := 7, ground := Ground.data }], guard := none }) rfl (fun K hK => ?_) AllReadyH.nil
          go_simp
          have hkn := (Kp.refl [] w6).alloc (.cells #[.int .i64 di, .int .i64 dp, .string dn, .string do_, .string du, .string dd, .string dl, .int .i64 dk, .int .i64 dm, dv] 34)
          have hg8 := heap_alloc_last w6 (.cells #[.int .i64 di, .int .i64 dp, .string dn, .string do_, .string du, .string dd, .string dl, .int .i64 dk, .int .i64 dm, dv] 34)
          generalize w6.alloc (.cells #[.int .i64 di, .int .i64 dp, .string dn, .string do_, .string du, .string dd, .string dl, .int .i64 dk, .int .i64 dm, dv] 34) = w8 at *
          have HK8 := Lib.hid (HK6.out.trans hkn)
          have HQ8 := Lib.hid ((hkn.block Q (block_lt HQ6.out) (by simp)).trans HQ6.out)
          have HG8 := Lib.hid (show w8.heap[w6.heap.size]? = some (.cells (De.dvC X.1 X.2).toArray 34 (0, 0)) from by rw [← HX.out]; exact hg8)
          have HO8 := Lib.hid (ownsRow_keep HO6.out fun b hB hb => hkn.block b (HO6.out.lt b hb).2 (by simp))
          have hS := hHeld.trans hkn
          clear hkn hg8
          clear hHeld
          refine hK.out _ _ hS (fun hHeld => ?_)
          try simp only [Act.put, List.setIfInBounds_toArray, List.set_cons_zero, List.set_cons_succ]
          clear hK
          refine wpAnyH_ready (rs := [9]) (by kernel_rfl) (by simp) ?_
          refine AllReadyH.cons (o := { dst := some 93, op := Op.call { callee := Callee.builtin Builtin.append, args := #[Operand.tmp 90, Operand.tmp 92], argTypes := #[22, 22] }, type := 22, pos := "ref.go:210", after := #[{ on := 6, ground := Ground.data }, { on := 8, ground := Ground.data }, { on := 6, ground := Ground.chain }], guard := none }) rfl (fun K hK => ?_) AllReadyH.nil
          obtain ⟨v9, w9, hrun, how, hgr⟩ := run_append_dvs (w := w8) (base := Q + 1) (v := v6) (xs := l.take mn) (ys := [X]) (ty := 22) HO8.out (one_row HG8.out (by rw [← HX.out]; exact HD.out.below (HK0.out.trans hHeld).bel)) (by have := HN.out; rw [List.length_take]; show min _ _ + 1 ≤ _; omega) (by have := HK8.out.size; have := HWs.out; omega)
          have HR := Lib.hid hrun
          have Hw9O := Lib.hid how
          have hkn : Kp [] wd w9 := kp_grownS HK8.out hgr (fun b hb => by have := (HO8.out.lt b hb).1; have := HWs.out; omega)
          have hkS : Kp [] W0 w9 := kp_grownS hHeld hgr (fun b hb => by have := (HO8.out.lt b hb).1; have := HBQ.out; have := HS0.out; omega)
          have Hw9K := Lib.hid hkn
          have Hw9Q := Lib.hid ((hkn.block Q (by have := HWs.out; omega) (by simp)).trans HQd.out)
          clear hrun how hgr hkn
          refine step_append_run rfl _ _ rfl _ _ _ rfl rfl HR.out ?_
          clear hHeld
          refine hK.out _ _ hkS (fun hHeld => ?_)
          try simp only [Act.put, List.setIfInBounds_toArray, List.set_cons_zero, List.set_cons_succ]
          clear hK
          clear HR
          refine wpAnyH_ready (rs := [14]) (by kernel_rfl) (by simp) ?_
          refine AllReadyH.cons (o := { dst := some 98, op := Op.call { callee := Callee.builtin Builtin.append, args := #[Operand.tmp 93, Operand.tmp 97], argTypes := #[22, 22] }, type := 22, pos := "ref.go:210", after := #[{ on := 9, ground := Ground.data }, { on := 13, ground := Ground.data }, { on := 9, ground := Ground.chain }], guard := none }) rfl (fun K hK => ?_) AllReadyH.nil
          obtain ⟨vt, wt, hrun, how, hgr⟩ := run_append_dvs (w := w9) (base := Q + 1) (v := v9) (xs := l.take mn ++ [X]) (ys := l.drop mn) (ty := 22) Hw9O.out (HY2.out _ hHeld) (by have := HN.out; rw [List.length_append, List.length_take, List.length_drop]; show min _ _ + 1 + (_ - _) ≤ _; omega) (by have := Hw9K.out.size; have := HWs.out; omega)
          have HR := Lib.hid hrun
          have HwtO := Lib.hid how
          have hkn : Kp [] wd wt := kp_grownS Hw9K.out hgr (fun b hb => by have := (Hw9O.out.lt b hb).1; have := HWs.out; omega)
          have hkS : Kp [] W0 wt := kp_grownS hHeld hgr (fun b hb => by have := (Hw9O.out.lt b hb).1; have := HBQ.out; have := HS0.out; omega)
          have HwtK := Lib.hid hkn
          have HwtQ := Lib.hid ((hkn.block Q (by have := HWs.out; omega) (by simp)).trans HQd.out)
          clear hrun how hgr hkn
          refine step_append_run rfl _ _ rfl _ _ _ rfl rfl HR.out ?_
          clear hHeld
          refine hK.out _ _ hkS (fun hHeld => ?_)
          try simp only [Act.put, List.setIfInBounds_toArray, List.set_cons_zero, List.set_cons_succ]
          clear hK
          clear HR
          obtain ⟨ta, tn, tc, htf⟩ := ownsRow_form HwtO.out
          subst htf
          refine wpAnyH_take (i := 15) (oi := { dst := some 99, op := Op.fieldAddr 29 (Operand.tmp 10) 0, type := 0, pos := "ref.go:210", after := #[{ on := 0, ground := Ground.phase }, { on := 1, ground := Ground.phase }, { on := 2, ground := Ground.phase }, { on := 3, ground := Ground.phase }, { on := 4, ground := Ground.phase }, { on := 5, ground := Ground.phase }, { on := 6, ground := Ground.phase }, { on := 7, ground := Ground.phase }, { on := 8, ground := Ground.phase }, { on := 9, ground := Ground.phase }, { on := 10, ground := Ground.phase }, { on := 11, ground := Ground.phase }, { on := 12, ground := Ground.phase }, { on := 13, ground := Ground.phase }, { on := 14, ground := Ground.phase }], guard := none }) (v := .pointer (some ⟨Q, 0, none⟩)) rfl (by kernel_rfl) (by kernel_rfl) (by kernel_rfl) (fun _ _ _ h => h) (Or.inl ⟨by rfl, fun w hSw => by (try dsimp only at hSw); go_simp⟩) hHeld ?_
          try simp only [Act.put, List.setIfInBounds_toArray, List.set_cons_zero, List.set_cons_succ]
          refine wpAnyH_ready (rs := [16]) (by kernel_rfl) (by simp) ?_
          refine AllReadyH.cons (o := { dst := none, op := Op.store 22 (Operand.tmp 99) (Operand.tmp 98), type := 0, pos := "ref.go:210", after := #[{ on := 15, ground := Ground.data }, { on := 14, ground := Ground.data }, { on := 14, ground := Ground.chain }, { on := 0, ground := Ground.phase }, { on := 1, ground := Ground.phase }, { on := 2, ground := Ground.phase }, { on := 3, ground := Ground.phase }, { on := 4, ground := Ground.phase }, { on := 5, ground := Ground.phase }, { on := 6, ground := Ground.phase }, { on := 7, ground := Ground.phase }, { on := 8, ground := Ground.phase }, { on := 9, ground := Ground.phase }, { on := 10, ground := Ground.phase }, { on := 11, ground := Ground.phase }, { on := 12, ground := Ground.phase }, { on := 13, ground := Ground.phase }, { on := 14, ground := Ground.phase }], guard := none }) rfl (fun K hK => ?_) AllReadyH.nil
          have q0 := cell_one HwtQ.out
          have qf := frz_one HwtQ.out
          go_simp
          have HQe := Lib.hid (set_one (v := (.slice ta tn tc)) HwtQ.out)
          have hS := hHeld.setCell (p := ⟨Q, 0, none⟩) (.inr (by have := HBQ.out; have := HS0.out; show W0.heap.size ≤ Q; omega)) (.slice ta tn tc)
          have HKe := Lib.hid hS
          have Hce := Lib.hid (show ∀ b, b ≠ Q → (wt.setCell ⟨Q, 0, none⟩ (.slice ta tn tc)).heap[b]? = wt.heap[b]? from fun b hb => Below.heap_setCell _ _ _ _ hb)
          generalize wt.setCell ⟨Q, 0, none⟩ (.slice ta tn tc) = we at *
          clear q0 qf
          clear hHeld
          refine hK.out _ _ hS (fun hHeld => ?_)
          try simp only [Act.put, List.setIfInBounds_toArray, List.set_cons_zero, List.set_cons_succ]
          clear hK
          refine wpAnyH_done (by kernel_rfl) ?_ _
          clear hHeld
          have HR1 := Lib.hid (HF.out _ HKe.out).2.2
          have H1e := Lib.hid (ownsRow_one HwtO.out)
          go_wp2_with (first
           | (refine wpList_load_row rfl 29 _ rfl Q rfl 29 #[(.slice ta tn tc)] (0, 0) _ HQe.out Tryz.underlying29 rfl info30b ?_)
           | (refine wpList_store_row rfl 29 _ _ rfl (Bz + 2) #[(.slice ta tn tc)] rfl rfl 29 #[.slice none 0 0] HR1.out info30b rfl H1e.out ?_))
          have hkF : Kp [] w (we.setRow (Bz + 2) #[(.slice ta tn tc)]) := (HK0.out.trans HKe.out).setRow (.inr Hwz.out) _
          refine bodyPost_ret (v := .tuple #[.agg #[(.slice ta tn tc)], .int .i64 0]) (De.results_row_tmp rfl _ _ (Bz + 2) 29 #[(.slice ta tn tc)] _ _ _ rfl rfl (setRow_heap _ _ _ _ _ _ HR1.out) Tryz.underlying29 rfl info30b) rfl ⟨hkF, (.slice ta tn tc), insD l X, by rw [HT.out], DOwn.any (B := Q + 1) ⟨?_, ?_⟩, .inr ⟨HT.out, rfl⟩, fun b hb => by have := (HwtO.out.lt b hb).1; have := HBQ.out; have := HBz.out; omega⟩
          ·have e : insD l X = l.take mn ++ [X] ++ l.drop mn := by unfold insD; rw [HOX.out, HP.out]; simp
           rw [e]
           exact ownsRow_keep HwtO.out fun b hB hb => (setRow_other we (Bz + 2) b _ (by have := HBQ.out; omega)).trans (Hce.out b (by omega))
          ·intro y hy
           have hy2 : y ∈ l ∨ y = X := by
            unfold insD at hy
            rcases List.mem_append.1 hy with hy | hy
            ·exact .inl (List.mem_of_mem_take hy)
            ·rcases List.mem_cons.1 hy with hy | hy
             ·exact .inr hy
             ·exact .inl (List.mem_of_mem_drop hy)
           rcases hy2 with hy2 | rfl
           ·exact (HSV.out.has.below hkF.bel).ats y hy2
           ·rw [← HX.out]
            exact HD.out.below hkF.bel
         ·skip
          go_simp
          have hkn := (Kp.refl [] wd).alloc (.cells #[.int .i64 di, .int .i64 dp, .string dn, .string do_, .string du, .string dd, .string dl, .int .i64 dk, .int .i64 dm, dv] 34)
          have hg8 := heap_alloc_last wd (.cells #[.int .i64 di, .int .i64 dp, .string dn, .string do_, .string du, .string dd, .string dl, .int .i64 dk, .int .i64 dm, dv] 34)
          generalize wd.alloc (.cells #[.int .i64 di, .int .i64 dp, .string dn, .string do_, .string du, .string dd, .string dl, .int .i64 dk, .int .i64 dm, dv] 34) = w8 at *
          have HK8 := Lib.hid (HKd.out.trans hkn)
          have HQ8 := Lib.hid ((hkn.block Q (block_lt HQd.out) (by simp)).trans HQd.out)
          have HG8 := Lib.hid (show w8.heap[wd.heap.size]? = some (.cells (De.dvC X.1 X.2).toArray 34 (0, 0)) from by rw [← HX.out]; exact hg8)
          have hS := hHeld.trans hkn
          clear hkn hg8
          clear hHeld
          refine hK.out _ _ hS (fun hHeld => ?_)
          try simp only [Act.put, List.setIfInBounds_toArray, List.set_cons_zero, List.set_cons_succ]
          clear hK
          refine wpAnyH_ready (rs := [6]) (by kernel_rfl) (by simp) ?_
          refine AllReadyH.cons (o := { dst := some 90, op := Op.call { callee := Callee.builtin Builtin.append, args := #[Operand.tmp 85, Operand.tmp 89], argTypes := #[22, 22] }, type := 22, pos := "ref.go:210", after := #[{ on := 1, ground := Ground.data }, { on := 5, ground := Ground.data }], guard := none }) rfl (fun K hK => ?_) AllReadyH.nil
          obtain ⟨v6, w6, hrun, how, hgr⟩ := run_append_dvs (w := w8) (base := Q + 1) (v := .slice none 0 0) (xs := []) (ys := l.take mn) (ty := 22) (World.ownsRow_nil _ _ _ _) (HY1.out _ hHeld) (by have := HN.out; rw [List.length_take]; show 0 + min _ _ ≤ _; omega) (by have := HK8.out.size; have := HWs.out; omega)
          have HR := Lib.hid hrun
          have HO6 := Lib.hid how
          have hkn : Kp [] w8 w6 := kp_grownS (Kp.refl [] _) hgr (fun b hb => by cases hb)
          have HK6 := Lib.hid (HK8.out.trans hkn)
          have HQ6 := Lib.hid ((hkn.block Q (block_lt HQ8.out) (by simp)).trans HQ8.out)
          have HG6 := Lib.hid ((hkn.block _ (block_lt HG8.out) (by simp)).trans HG8.out)
          have hS := hHeld.trans hkn
          clear hrun how hgr hkn
          refine step_append_run rfl _ _ rfl _ _ _ rfl rfl HR.out ?_
          clear hHeld
          refine hK.out _ _ hS (fun hHeld => ?_)
          try simp only [Act.put, List.setIfInBounds_toArray, List.set_cons_zero, List.set_cons_succ]
          clear hK
          clear HR
          refine wpAnyH_ready (rs := [9]) (by kernel_rfl) (by simp) ?_
          refine AllReadyH.cons (o := { dst := some 93, op := Op.call { callee := Callee.builtin Builtin.append, args := #[Operand.tmp 90, Operand.tmp 92], argTypes := #[22, 22] }, type := 22, pos := "ref.go:210", after := #[{ on := 6, ground := Ground.data }, { on := 8, ground := Ground.data }, { on := 6, ground := Ground.chain }], guard := none }) rfl (fun K hK => ?_) AllReadyH.nil
          obtain ⟨v9, w9, hrun, how, hgr⟩ := run_append_dvs (w := w6) (base := Q + 1) (v := v6) (xs := l.take mn) (ys := [X]) (ty := 22) HO6.out (one_row HG6.out (by rw [← HX.out]; exact HD.out.below (HK0.out.trans hHeld).bel)) (by have := HN.out; rw [List.length_take]; show min _ _ + 1 ≤ _; omega) (by have := HK6.out.size; have := HWs.out; omega)
          have HR := Lib.hid hrun
          have Hw9O := Lib.hid how
          have hkn : Kp [] wd w9 := kp_grownS HK6.out hgr (fun b hb => by have := (HO6.out.lt b hb).1; have := HWs.out; omega)
          have hkS : Kp [] W0 w9 := kp_grownS hHeld hgr (fun b hb => by have := (HO6.out.lt b hb).1; have := HBQ.out; have := HS0.out; omega)
          have Hw9K := Lib.hid hkn
          have Hw9Q := Lib.hid ((hkn.block Q (by have := HWs.out; omega) (by simp)).trans HQd.out)
          clear hrun how hgr hkn
          refine step_append_run rfl _ _ rfl _ _ _ rfl rfl HR.out ?_
          clear hHeld
          refine hK.out _ _ hkS (fun hHeld => ?_)
          try simp only [Act.put, List.setIfInBounds_toArray, List.set_cons_zero, List.set_cons_succ]
          clear hK
          clear HR
          refine wpAnyH_ready (rs := [14]) (by kernel_rfl) (by simp) ?_
          refine AllReadyH.cons (o := { dst := some 98, op := Op.call { callee := Callee.builtin Builtin.append, args := #[Operand.tmp 93, Operand.tmp 97], argTypes := #[22, 22] }, type := 22, pos := "ref.go:210", after := #[{ on := 9, ground := Ground.data }, { on := 13, ground := Ground.data }, { on := 9, ground := Ground.chain }], guard := none }) rfl (fun K hK => ?_) AllReadyH.nil
          obtain ⟨vt, wt, hrun, how, hgr⟩ := run_append_dvs (w := w9) (base := Q + 1) (v := v9) (xs := l.take mn ++ [X]) (ys := l.drop mn) (ty := 22) Hw9O.out (HY2.out _ hHeld) (by have := HN.out; rw [List.length_append, List.length_take, List.length_drop]; show min _ _ + 1 + (_ - _) ≤ _; omega) (by have := Hw9K.out.size; have := HWs.out; omega)
          have HR := Lib.hid hrun
          have HwtO := Lib.hid how
          have hkn : Kp [] wd wt := kp_grownS Hw9K.out hgr (fun b hb => by have := (Hw9O.out.lt b hb).1; have := HWs.out; omega)
          have hkS : Kp [] W0 wt := kp_grownS hHeld hgr (fun b hb => by have := (Hw9O.out.lt b hb).1; have := HBQ.out; have := HS0.out; omega)
          have HwtK := Lib.hid hkn
          have HwtQ := Lib.hid ((hkn.block Q (by have := HWs.out; omega) (by simp)).trans HQd.out)
          clear hrun how hgr hkn
          refine step_append_run rfl _ _ rfl _ _ _ rfl rfl HR.out ?_
          clear hHeld
          refine hK.out _ _ hkS (fun hHeld => ?_)
          try simp only [Act.put, List.setIfInBounds_toArray, List.set_cons_zero, List.set_cons_succ]
          clear hK
          clear HR
          obtain ⟨ta, tn, tc, htf⟩ := ownsRow_form HwtO.out
          subst htf
          refine wpAnyH_take (i := 15) (oi := { dst := some 99, op := Op.fieldAddr 29 (Operand.tmp 10) 0, type := 0, pos := "ref.go:210", after := #[{ on := 0, ground := Ground.phase }, { on := 1, ground := Ground.phase }, { on := 2, ground := Ground.phase }, { on := 3, ground := Ground.phase }, { on := 4, ground := Ground.phase }, { on := 5, ground := Ground.phase }, { on := 6, ground := Ground.phase }, { on := 7, ground := Ground.phase }, { on := 8, ground := Ground.phase }, { on := 9, ground := Ground.phase }, { on := 10, ground := Ground.phase }, { on := 11, ground := Ground.phase }, { on := 12, ground := Ground.phase }, { on := 13, ground := Ground.phase }, { on := 14, ground := Ground.phase }], guard := none }) (v := .pointer (some ⟨Q, 0, none⟩)) rfl (by kernel_rfl) (by kernel_rfl) (by kernel_rfl) (fun _ _ _ h => h) (Or.inl ⟨by rfl, fun w hSw => by (try dsimp only at hSw); go_simp⟩) hHeld ?_
          try simp only [Act.put, List.setIfInBounds_toArray, List.set_cons_zero, List.set_cons_succ]
          refine wpAnyH_ready (rs := [16]) (by kernel_rfl) (by simp) ?_
          refine AllReadyH.cons (o := { dst := none, op := Op.store 22 (Operand.tmp 99) (Operand.tmp 98), type := 0, pos := "ref.go:210", after := #[{ on := 15, ground := Ground.data }, { on := 14, ground := Ground.data }, { on := 14, ground := Ground.chain }, { on := 0, ground := Ground.phase }, { on := 1, ground := Ground.phase }, { on := 2, ground := Ground.phase }, { on := 3, ground := Ground.phase }, { on := 4, ground := Ground.phase }, { on := 5, ground := Ground.phase }, { on := 6, ground := Ground.phase }, { on := 7, ground := Ground.phase }, { on := 8, ground := Ground.phase }, { on := 9, ground := Ground.phase }, { on := 10, ground := Ground.phase }, { on := 11, ground := Ground.phase }, { on := 12, ground := Ground.phase }, { on := 13, ground := Ground.phase }, { on := 14, ground := Ground.phase }], guard := none }) rfl (fun K hK => ?_) AllReadyH.nil
          have q0 := cell_one HwtQ.out
          have qf := frz_one HwtQ.out
          go_simp
          have HQe := Lib.hid (set_one (v := (.slice ta tn tc)) HwtQ.out)
          have hS := hHeld.setCell (p := ⟨Q, 0, none⟩) (.inr (by have := HBQ.out; have := HS0.out; show W0.heap.size ≤ Q; omega)) (.slice ta tn tc)
          have HKe := Lib.hid hS
          have Hce := Lib.hid (show ∀ b, b ≠ Q → (wt.setCell ⟨Q, 0, none⟩ (.slice ta tn tc)).heap[b]? = wt.heap[b]? from fun b hb => Below.heap_setCell _ _ _ _ hb)
          generalize wt.setCell ⟨Q, 0, none⟩ (.slice ta tn tc) = we at *
          clear q0 qf
          clear hHeld
          refine hK.out _ _ hS (fun hHeld => ?_)
          try simp only [Act.put, List.setIfInBounds_toArray, List.set_cons_zero, List.set_cons_succ]
          clear hK
          refine wpAnyH_done (by kernel_rfl) ?_ _
          clear hHeld
          have HR1 := Lib.hid (HF.out _ HKe.out).2.2
          have H1e := Lib.hid (ownsRow_one HwtO.out)
          go_wp2_with (first
           | (refine wpList_load_row rfl 29 _ rfl Q rfl 29 #[(.slice ta tn tc)] (0, 0) _ HQe.out Tryz.underlying29 rfl info30b ?_)
           | (refine wpList_store_row rfl 29 _ _ rfl (Bz + 2) #[(.slice ta tn tc)] rfl rfl 29 #[.slice none 0 0] HR1.out info30b rfl H1e.out ?_))
          have hkF : Kp [] w (we.setRow (Bz + 2) #[(.slice ta tn tc)]) := (HK0.out.trans HKe.out).setRow (.inr Hwz.out) _
          refine bodyPost_ret (v := .tuple #[.agg #[(.slice ta tn tc)], .int .i64 0]) (De.results_row_tmp rfl _ _ (Bz + 2) 29 #[(.slice ta tn tc)] _ _ _ rfl rfl (setRow_heap _ _ _ _ _ _ HR1.out) Tryz.underlying29 rfl info30b) rfl ⟨hkF, (.slice ta tn tc), insD l X, by rw [HT.out], DOwn.any (B := Q + 1) ⟨?_, ?_⟩, .inr ⟨HT.out, rfl⟩, fun b hb => by have := (HwtO.out.lt b hb).1; have := HBQ.out; have := HBz.out; omega⟩
          ·have e : insD l X = l.take mn ++ [X] ++ l.drop mn := by unfold insD; rw [HOX.out, HP.out]; simp
           rw [e]
           exact ownsRow_keep HwtO.out fun b hB hb => (setRow_other we (Bz + 2) b _ (by have := HBQ.out; omega)).trans (Hce.out b (by omega))
          ·intro y hy
           have hy2 : y ∈ l ∨ y = X := by
            unfold insD at hy
            rcases List.mem_append.1 hy with hy | hy
            ·exact .inl (List.mem_of_mem_take hy)
            ·rcases List.mem_cons.1 hy with hy | hy
             ·exact .inr hy
             ·exact .inl (List.mem_of_mem_drop hy)
           rcases hy2 with hy2 | rfl
           ·exact (HSV.out.has.below hkF.bel).ats y hy2
           ·rw [← HX.out]
            exact HD.out.below hkF.bel
        ·skip
         go_simp
         have hkn := (Kp.refl [] wd).alloc (.cells #[.int .i64 di, .int .i64 dp, .string dn, .string do_, .string du, .string dd, .string dl, .int .i64 dk, .int .i64 dm, dv] 34)
         have hg8 := heap_alloc_last wd (.cells #[.int .i64 di, .int .i64 dp, .string dn, .string do_, .string du, .string dd, .string dl, .int .i64 dk, .int .i64 dm, dv] 34)
         generalize wd.alloc (.cells #[.int .i64 di, .int .i64 dp, .string dn, .string do_, .string du, .string dd, .string dl, .int .i64 dk, .int .i64 dm, dv] 34) = w8 at *
         have HK8 := Lib.hid (HKd.out.trans hkn)
         have HQ8 := Lib.hid ((hkn.block Q (block_lt HQd.out) (by simp)).trans HQd.out)
         have HG8 := Lib.hid (show w8.heap[wd.heap.size]? = some (.cells (De.dvC X.1 X.2).toArray 34 (0, 0)) from by rw [← HX.out]; exact hg8)
         have hS := hHeld.trans hkn
         clear hkn hg8
         clear hHeld
         refine hK.out _ _ hS (fun hHeld => ?_)
         try simp only [Act.put, List.setIfInBounds_toArray, List.set_cons_zero, List.set_cons_succ]
         clear hK
         refine wpAnyH_ready (rs := [1]) (by kernel_rfl) (by simp) ?_
         refine AllReadyH.cons (o := { dst := some 85, op := Op.load 22 (Operand.tmp 84), type := 22, pos := "ref.go:210", after := #[{ on := 0, ground := Ground.data }], guard := none }) rfl (fun K hK => ?_) AllReadyH.nil
         have q0 := cell_one HQ8.out
         go_simp
         clear q0
         have hS := hHeld
         clear hHeld
         refine hK.out _ _ hS (fun hHeld => ?_)
         try simp only [Act.put, List.setIfInBounds_toArray, List.set_cons_zero, List.set_cons_succ]
         clear hK
         refine wpAnyH_ready (rs := [6]) (by kernel_rfl) (by simp) ?_
         refine AllReadyH.cons (o := { dst := some 90, op := Op.call { callee := Callee.builtin Builtin.append, args := #[Operand.tmp 85, Operand.tmp 89], argTypes := #[22, 22] }, type := 22, pos := "ref.go:210", after := #[{ on := 1, ground := Ground.data }, { on := 5, ground := Ground.data }], guard := none }) rfl (fun K hK => ?_) AllReadyH.nil
         obtain ⟨v6, w6, hrun, how, hgr⟩ := run_append_dvs (w := w8) (base := Q + 1) (v := .slice none 0 0) (xs := []) (ys := l.take mn) (ty := 22) (World.ownsRow_nil _ _ _ _) (HY1.out _ hHeld) (by have := HN.out; rw [List.length_take]; show 0 + min _ _ ≤ _; omega) (by have := HK8.out.size; have := HWs.out; omega)
         have HR := Lib.hid hrun
         have HO6 := Lib.hid how
         have hkn : Kp [] w8 w6 := kp_grownS (Kp.refl [] _) hgr (fun b hb => by cases hb)
         have HK6 := Lib.hid (HK8.out.trans hkn)
         have HQ6 := Lib.hid ((hkn.block Q (block_lt HQ8.out) (by simp)).trans HQ8.out)
         have HG6 := Lib.hid ((hkn.block _ (block_lt HG8.out) (by simp)).trans HG8.out)
         have hS := hHeld.trans hkn
         clear hrun how hgr hkn
         refine step_append_run rfl _ _ rfl _ _ _ rfl rfl HR.out ?_
         clear hHeld
         refine hK.out _ _ hS (fun hHeld => ?_)
         try simp only [Act.put, List.setIfInBounds_toArray, List.set_cons_zero, List.set_cons_succ]
         clear hK
         clear HR
         refine wpAnyH_ready (rs := [9]) (by kernel_rfl) (by simp) ?_
         refine AllReadyH.cons (o := { dst := some 93, op := Op.call { callee := Callee.builtin Builtin.append, args := #[Operand.tmp 90, Operand.tmp 92], argTypes := #[22, 22] }, type := 22, pos := "ref.go:210", after := #[{ on := 6, ground := Ground.data }, { on := 8, ground := Ground.data }, { on := 6, ground := Ground.chain }], guard := none }) rfl (fun K hK => ?_) AllReadyH.nil
         obtain ⟨v9, w9, hrun, how, hgr⟩ := run_append_dvs (w := w6) (base := Q + 1) (v := v6) (xs := l.take mn) (ys := [X]) (ty := 22) HO6.out (one_row HG6.out (by rw [← HX.out]; exact HD.out.below (HK0.out.trans hHeld).bel)) (by have := HN.out; rw [List.length_take]; show min _ _ + 1 ≤ _; omega) (by have := HK6.out.size; have := HWs.out; omega)
         have HR := Lib.hid hrun
         have Hw9O := Lib.hid how
         have hkn : Kp [] wd w9 := kp_grownS HK6.out hgr (fun b hb => by have := (HO6.out.lt b hb).1; have := HWs.out; omega)
         have hkS : Kp [] W0 w9 := kp_grownS hHeld hgr (fun b hb => by have := (HO6.out.lt b hb).1; have := HBQ.out; have := HS0.out; omega)
         have Hw9K := Lib.hid hkn
         have Hw9Q := Lib.hid ((hkn.block Q (by have := HWs.out; omega) (by simp)).trans HQd.out)
         clear hrun how hgr hkn
         refine step_append_run rfl _ _ rfl _ _ _ rfl rfl HR.out ?_
         clear hHeld
         refine hK.out _ _ hkS (fun hHeld => ?_)
         try simp only [Act.put, List.setIfInBounds_toArray, List.set_cons_zero, List.set_cons_succ]
         clear hK
         clear HR
         refine wpAnyH_ready (rs := [14]) (by kernel_rfl) (by simp) ?_
         refine AllReadyH.cons (o := { dst := some 98, op := Op.call { callee := Callee.builtin Builtin.append, args := #[Operand.tmp 93, Operand.tmp 97], argTypes := #[22, 22] }, type := 22, pos := "ref.go:210", after := #[{ on := 9, ground := Ground.data }, { on := 13, ground := Ground.data }, { on := 9, ground := Ground.chain }], guard := none }) rfl (fun K hK => ?_) AllReadyH.nil
         obtain ⟨vt, wt, hrun, how, hgr⟩ := run_append_dvs (w := w9) (base := Q + 1) (v := v9) (xs := l.take mn ++ [X]) (ys := l.drop mn) (ty := 22) Hw9O.out (HY2.out _ hHeld) (by have := HN.out; rw [List.length_append, List.length_take, List.length_drop]; show min _ _ + 1 + (_ - _) ≤ _; omega) (by have := Hw9K.out.size; have := HWs.out; omega)
         have HR := Lib.hid hrun
         have HwtO := Lib.hid how
         have hkn : Kp [] wd wt := kp_grownS Hw9K.out hgr (fun b hb => by have := (Hw9O.out.lt b hb).1; have := HWs.out; omega)
         have hkS : Kp [] W0 wt := kp_grownS hHeld hgr (fun b hb => by have := (Hw9O.out.lt b hb).1; have := HBQ.out; have := HS0.out; omega)
         have HwtK := Lib.hid hkn
         have HwtQ := Lib.hid ((hkn.block Q (by have := HWs.out; omega) (by simp)).trans HQd.out)
         clear hrun how hgr hkn
         refine step_append_run rfl _ _ rfl _ _ _ rfl rfl HR.out ?_
         clear hHeld
         refine hK.out _ _ hkS (fun hHeld => ?_)
         try simp only [Act.put, List.setIfInBounds_toArray, List.set_cons_zero, List.set_cons_succ]
         clear hK
         clear HR
         obtain ⟨ta, tn, tc, htf⟩ := ownsRow_form HwtO.out
         subst htf
         refine wpAnyH_take (i := 15) (oi := { dst := some 99, op := Op.fieldAddr 29 (Operand.tmp 10) 0, type := 0, pos := "ref.go:210", after := #[{ on := 0, ground := Ground.phase }, { on := 1, ground := Ground.phase }, { on := 2, ground := Ground.phase }, { on := 3, ground := Ground.phase }, { on := 4, ground := Ground.phase }, { on := 5, ground := Ground.phase }, { on := 6, ground := Ground.phase }, { on := 7, ground := Ground.phase }, { on := 8, ground := Ground.phase }, { on := 9, ground := Ground.phase }, { on := 10, ground := Ground.phase }, { on := 11, ground := Ground.phase }, { on := 12, ground := Ground.phase }, { on := 13, ground := Ground.phase }, { on := 14, ground := Ground.phase }], guard := none }) (v := .pointer (some ⟨Q, 0, none⟩)) rfl (by kernel_rfl) (by kernel_rfl) (by kernel_rfl) (fun _ _ _ h => h) (Or.inl ⟨by rfl, fun w hSw => by (try dsimp only at hSw); go_simp⟩) hHeld ?_
         try simp only [Act.put, List.setIfInBounds_toArray, List.set_cons_zero, List.set_cons_succ]
         refine wpAnyH_ready (rs := [16]) (by kernel_rfl) (by simp) ?_
         refine AllReadyH.cons (o := { dst := none, op := Op.store 22 (Operand.tmp 99) (Operand.tmp 98), type := 0, pos := "ref.go:210", after := #[{ on := 15, ground := Ground.data }, { on := 14, ground := Ground.data }, { on := 14, ground := Ground.chain }, { on := 0, ground := Ground.phase }, { on := 1, ground := Ground.phase }, { on := 2, ground := Ground.phase }, { on := 3, ground := Ground.phase }, { on := 4, ground := Ground.phase }, { on := 5, ground := Ground.phase }, { on := 6, ground := Ground.phase }, { on := 7, ground := Ground.phase }, { on := 8, ground := Ground.phase }, { on := 9, ground := Ground.phase }, { on := 10, ground := Ground.phase }, { on := 11, ground := Ground.phase }, { on := 12, ground := Ground.phase }, { on := 13, ground := Ground.phase }, { on := 14, ground := Ground.phase }], guard := none }) rfl (fun K hK => ?_) AllReadyH.nil
         have q0 := cell_one HwtQ.out
         have qf := frz_one HwtQ.out
         go_simp
         have HQe := Lib.hid (set_one (v := (.slice ta tn tc)) HwtQ.out)
         have hS := hHeld.setCell (p := ⟨Q, 0, none⟩) (.inr (by have := HBQ.out; have := HS0.out; show W0.heap.size ≤ Q; omega)) (.slice ta tn tc)
         have HKe := Lib.hid hS
         have Hce := Lib.hid (show ∀ b, b ≠ Q → (wt.setCell ⟨Q, 0, none⟩ (.slice ta tn tc)).heap[b]? = wt.heap[b]? from fun b hb => Below.heap_setCell _ _ _ _ hb)
         generalize wt.setCell ⟨Q, 0, none⟩ (.slice ta tn tc) = we at *
         clear q0 qf
         clear hHeld
         refine hK.out _ _ hS (fun hHeld => ?_)
         try simp only [Act.put, List.setIfInBounds_toArray, List.set_cons_zero, List.set_cons_succ]
         clear hK
         refine wpAnyH_done (by kernel_rfl) ?_ _
         clear hHeld
         have HR1 := Lib.hid (HF.out _ HKe.out).2.2
         have H1e := Lib.hid (ownsRow_one HwtO.out)
         go_wp2_with (first
          | (refine wpList_load_row rfl 29 _ rfl Q rfl 29 #[(.slice ta tn tc)] (0, 0) _ HQe.out Tryz.underlying29 rfl info30b ?_)
          | (refine wpList_store_row rfl 29 _ _ rfl (Bz + 2) #[(.slice ta tn tc)] rfl rfl 29 #[.slice none 0 0] HR1.out info30b rfl H1e.out ?_))
         have hkF : Kp [] w (we.setRow (Bz + 2) #[(.slice ta tn tc)]) := (HK0.out.trans HKe.out).setRow (.inr Hwz.out) _
         refine bodyPost_ret (v := .tuple #[.agg #[(.slice ta tn tc)], .int .i64 0]) (De.results_row_tmp rfl _ _ (Bz + 2) 29 #[(.slice ta tn tc)] _ _ _ rfl rfl (setRow_heap _ _ _ _ _ _ HR1.out) Tryz.underlying29 rfl info30b) rfl ⟨hkF, (.slice ta tn tc), insD l X, by rw [HT.out], DOwn.any (B := Q + 1) ⟨?_, ?_⟩, .inr ⟨HT.out, rfl⟩, fun b hb => by have := (HwtO.out.lt b hb).1; have := HBQ.out; have := HBz.out; omega⟩
         ·have e : insD l X = l.take mn ++ [X] ++ l.drop mn := by unfold insD; rw [HOX.out, HP.out]; simp
          rw [e]
          exact ownsRow_keep HwtO.out fun b hB hb => (setRow_other we (Bz + 2) b _ (by have := HBQ.out; omega)).trans (Hce.out b (by omega))
         ·intro y hy
          have hy2 : y ∈ l ∨ y = X := by
           unfold insD at hy
           rcases List.mem_append.1 hy with hy | hy
           ·exact .inl (List.mem_of_mem_take hy)
           ·rcases List.mem_cons.1 hy with hy | hy
            ·exact .inr hy
            ·exact .inl (List.mem_of_mem_drop hy)
          rcases hy2 with hy2 | rfl
          ·exact (HSV.out.has.below hkF.bel).ats y hy2
          ·rw [← HX.out]
           exact HD.out.below hkF.bel
end Go.Proofs.YtldcediiobfhiaaGreatDoor
