/- The rule's ancestor, of both, on the way to the root. What the two laws of trees begin with. -/
import Derived.Test.YtljkljnfbcmjdaaGreatDoorKU4
import Derived.Test.YtljkljnfbcmjdaaGreatDoorKTu
import Derived.Test.YtljkljnfbcmjdaaGreatDoorKKn
namespace Go.Proofs.YtljkljnfbcmjdaaGreatDoor
open Go.RowKit
theorem ancL_fst {L : List De.DV} (ht : De.Tidy (L.map (·.1))) : ∀ (k : Nat) (n : Int), (De.ancL L k n).map (·.1) = De.up (L.map (·.1)) k n
 | 0, _ => rfl
 | k + 1, n => by
  unfold De.up
  rw [De.lastI_fnd ht n]
  cases hp : De.lastI (L.map (·.1)) n with
  | none => rw [De.ancL_none hp]; rfl
  | some p =>
   obtain ⟨a, ha, -⟩ := De.lastI_some hp
   have ha' := ha
   rw [List.getElem?_map, Option.map_eq_some_iff] at ha
   obtain ⟨x, hx, rfl⟩ := ha
   rw [De.ancL_some hp hx, List.map_cons, ancL_fst ht k x.1.par]
   simp only [Option.bind_some, ha']
theorem wayA_ups {L : List De.DV} (hv : De.Valid sndA clA (L.map (·.1))) (q : Int) : wayA L q = match De.ups (L.map (·.1)) q with
  | [] => none
  | c => some c := by
 have ht := hv.tidy
 unfold wayA
 have hf := De.lastI_fnd ht q
 cases hp : De.lastI (L.map (·.1)) q with
 | none =>
  rw [hp] at hf
  rw [De.ups_none hf]
  rfl
 | some p =>
  obtain ⟨a, ha, hai⟩ := De.lastI_some hp
  have ha' := ha
  rw [List.getElem?_map, Option.map_eq_some_iff] at ha
  obtain ⟨x, hx, rfl⟩ := ha
  have hup := De.ups_of ht ha'
  rw [hai] at hup
  rw [hup]
  have h7 : De.up (L.map (·.1)) 7 x.1.par = De.ups (L.map (·.1)) x.1.par := hv.up7 (ht.parent (List.mem_of_getElem? ha'))
  have hanc : De.ancOf L q = De.ancL L 7 x.1.par := by
   unfold De.ancOf
   rw [hp]
   simp only [hx]
  simp only [Option.bind_some, hx, hanc, ancL_fst ht, h7]
/-- The rule's ancestor. -/
def ancU (lt : List Tm) (c : List De.ADev) : Int × Bool := match c.find? (holdA lt) with
 | none => (0, false)
 | some a => (a.idx, true)
theorem ancE_ups {L : List De.DV} (hv : De.Valid sndA clA (L.map (·.1))) (lt : List Tm) (q : Int) : ancE lt L q = ancU lt (De.ups (L.map (·.1)) q) := by
 unfold ancE ancU
 rw [wayA_ups hv]
 cases De.ups (L.map (·.1)) q <;> rfl
theorem ancU_none {lt : List Tm} {c : List De.ADev} (h : ∀ a ∈ c, holdA lt a = false) : ancU lt c = (0, false) := by
 unfold ancU
 rw [List.find?_eq_none.2 (fun a ha => by rw [h a ha]; simp)]
theorem ancU_some {lt : List Tm} {c : List De.ADev} {i : Nat} {a : De.ADev} (h : ∀ y ∈ c.take i, holdA lt y = false) (ha : c[i]? = some a) (hh : holdA lt a = true) : ancU lt c = (a.idx, true) := by
 have : c.find? (holdA lt) = some a := by
  obtain ⟨hi, rfl⟩ := List.getElem?_eq_some_iff.1 ha
  have e : c = c.take i ++ c[i] :: c.drop (i + 1) := by
   rw [← List.drop_eq_getElem_cons hi, List.take_append_drop]
  have e2 : (c.take i ++ c[i] :: c.drop (i + 1)).find? (holdA lt) = some c[i] := by
   rw [List.find?_append, List.find?_eq_none.2 (fun y hy => by rw [h y hy]; simp), List.find?_cons]
   simp [hh]
  rw [← e] at e2
  exact e2
 unfold ancU
 rw [this]
theorem tm_all {W : World} {g o : Nat} {t : Tm} (h : W.rangeAt g o (tmT.cf t)) : W.cell? ⟨g, o, none⟩ = some (.int .i64 t.key) ∧ W.cell? ⟨g, o + 1, none⟩ = some (.string (bs t.name)) ∧ W.cell? ⟨g, o + 2, none⟩ = some (.int .i64 t.op) ∧ W.cell? ⟨g, o + 3, none⟩ = some (.string (bs t.val)) :=
 ⟨h 0 _ rfl, h 1 _ rfl, h 2 _ rfl, h 3 _ rfl⟩
theorem up_call (t : Tm) (w : World) (f : FuncId) {b : Bool} (hc : Calls Tryz.prog f #[.agg (tmC t)] w fun e w' => e = .returned (.bool b) ∧ Kp [] w w') : Calls Tryz.prog f #[.agg #[.int .i64 t.key, .string (bs t.name), .int .i64 t.op, .string (bs t.val)]] w fun e w' => e = .returned (.bool b) ∧ Kp [] w w' := hc
/-- All terms so far. -/
def allA (lt : List Tm) (a : De.ADev) : Bool := lt.all fun t => !missA a t
theorem allA_hold (lt : List Tm) (a : De.ADev) : allA lt a = holdA lt a := by
 unfold allA holdA
 rw [List.all_eq_not_any_not]
 simp
theorem allA_snoc {lt : List Tm} {k : Nat} {t : Tm} (a : De.ADev) (h : lt[k]? = some t) : allA (lt.take (k + 1)) a = (allA (lt.take k) a && !missA a t) := by
 unfold allA
 rw [List.take_add_one, h, List.all_append]
 simp
theorem dev_call (t : Tm) (x : De.DV) (w : World) (f : FuncId) (hc : Calls Tryz.prog f #[.agg (tmC t), De.devV (De.devOf x.1 x.2)] w fun e w' => e = .returned (.bool (devB t (De.devOf x.1 x.2) x.1.ats)) ∧ Kp [] w w') : Calls Tryz.prog f #[.agg #[.int .i64 t.key, .string (bs t.name), .int .i64 t.op, .string (bs t.val)], .agg #[.int .i64 x.1.idx, .int .i64 x.1.par, .string x.1.name, .string x.1.orig, .string x.1.sub, .string x.1.drv, .string x.1.ali, .int .i64 x.1.kind, .int .i64 x.1.num, x.2]] w fun e w' => e = .returned (.bool (devA t x.1)) ∧ Kp [] w w' := hc
theorem up_mem {l : List De.ADev} : ∀ {k : Nat} {n : Int} {a : De.ADev}, a ∈ De.up l k n → a ∈ l
 | 0, _, _, h => by cases h
 | k + 1, n, a, h => by
  unfold De.up at h
  cases hf : De.fnd l n with
  | none => rw [hf] at h; cases h
  | some d =>
   rw [hf] at h
   rcases List.mem_cons.1 h with rfl | h
   ·exact (De.fnd_mem hf).1
   ·exact up_mem h
end Go.Proofs.YtljkljnfbcmjdaaGreatDoor
namespace Go.Proofs.YtljkljnfbcmjdaaGreatDoor
open Go.RowKit
theorem tape_new {w : World} {lv : Value} (hi : Ints w w.heap.size lv) : Tp (w.alloc (.cells #[lv, .int .i64 0] 27)) w.heap.size 0 :=
 ⟨lv, heap_alloc_last _ _, hi.keep fun b hb => by have := ((Kp.refl [] w).alloc (.cells #[lv, .int .i64 0] 27)).block b hb (by simp); exact this⟩
theorem tree9 {w : World} {tb k : Nat} (hk : k ≤ 400) (h : Tp w tb k) (hm : De.Max w) : Calls Tryz.prog 6 #[.pointer (some ⟨tb, 0, none⟩), .int .i64 9] w fun e w' => ∃ va N vc L, e = .returned (.agg #[.slice va N vc]) ∧ Hid (L.length = N) ∧ N ≤ vc ∧ N ≤ 9 ∧ Hid (TreeAt w' (tb + 1) 9 (.slice va N vc) L) ∧ ∃ k', k' ≤ k + 361 ∧ Hid (Tp w' tb k') ∧ Hid (Kp [tb] w w') := by
 refine (show Calls Tryz.prog 6 #[.pointer (some ⟨tb, 0, none⟩), .int .i64 ((9 : Nat) : Int)] w (TreePost tb k 9 w) from tree_any 9 (by omega) (by omega) h hm).mono ?_
 rintro e w' ⟨v, L, rfl, ht, ⟨k', hk', hT⟩, hkp⟩
 obtain ⟨va, vc, rfl, hvc, -⟩ := ht.any.wform
 exact ⟨va, L.length, vc, L, rfl, Lib.hid rfl, hvc, ht.len, Lib.hid (ht.up (Nat.le_refl _) h.lt), k', by omega, Lib.hid hT, Lib.hid hkp⟩
theorem ancestor_all (lt : List Tm) (ad : Option Addr) (cp : Nat) (L : List De.DV) (a0 : Option Addr) (c0 : Nat) (q : Int) (w : World) (hlt : lt.length ≤ 1000000) (hsl : SmL lt) (hv : tmT.Has w (.slice ad lt.length cp) lt) (ho : TrOk L) (hd : De.DHas w (.slice a0 L.length c0) L) (hc0 : L.length ≤ c0) (hq : (Lit.int .i64 q).wf = true) (hval : De.Valid sndA clA (L.map (·.1))) :
  Calls Tryz.prog 9 #[.slice ad lt.length cp, .agg #[.slice a0 L.length c0], .int .i64 q] w fun e w' => e = .returned (.tuple #[.int .i64 (ancU lt (De.ups (L.map (·.1)) q)).1, .bool (ancU lt (De.ups (L.map (·.1)) q)).2]) ∧ Kp [] w w' := by
 rw [← ancE_ups hval]
 cases hf : (De.lastI (L.map (·.1)) q).bind (fun p => L[p]?) with
 | none =>
  have : ancE lt L q = (0, false) := by unfold ancE wayA; rw [hf]
  rw [this]
  exact ancestor_none lt ad cp L a0 c0 q w ho hd hq hf
 | some x => exact ancestor_some lt ad cp L a0 c0 q w (by omega) hsl hv ho hd hc0 hq x.1 x.2 hf
theorem found_ups {L : List De.DV} (hv : De.Valid sndA clA (L.map (·.1))) {q : Int} : (∀ y, (De.lastI (L.map (·.1)) q).bind (fun p => L[p]?) = some y → De.ups (L.map (·.1)) q = y.1 :: (De.ancOf L q).map (·.1)) ∧ ((De.lastI (L.map (·.1)) q).bind (fun p => L[p]?) = none → De.ups (L.map (·.1)) q = []) := by
 have h := wayA_ups hv q
 unfold wayA at h
 constructor
 ·intro y hy
  rw [hy] at h
  cases hu : De.ups (L.map (·.1)) q with
  | nil => rw [hu] at h; cases h
  | cons a r =>
   rw [hu] at h
   exact (Option.some.inj h).symm
 ·intro hn
  rw [hn] at h
  cases hu : De.ups (L.map (·.1)) q with
  | nil => rfl
  | cons a r => rw [hu] at h; cases h
theorem own_one40 {W : World} {B G : Nat} {x : De.DV} (hG : W.heap[G]? = some (.cells (De.dvC x.1 x.2).toArray 40 (0, 0))) (hB : B ≤ G) : W.ownsRow B 40 10 (.slice (some ⟨G, 0, none⟩) 1 1) [x].length (De.dvsC [x]) := by
 refine ⟨rfl, .inr ⟨G, 1, _, rfl, hB, hG, Nat.le_refl _, by unfold maxLen; omega, rfl, ?_⟩⟩
 simp [De.dvsC, De.dvC]
end Go.Proofs.YtljkljnfbcmjdaaGreatDoor
