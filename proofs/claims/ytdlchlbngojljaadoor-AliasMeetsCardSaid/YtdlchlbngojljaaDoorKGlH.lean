/- firstElement: the first element of a pattern. -/
import Derived.Test.YtdlchlbngojljaaDoorKGlG
namespace Go.Proofs.YtdlchlbngojljaaDoor.Gl
open Go.RowKit
/-- The six cells of an element. -/
def elV (e : El) : Array Value := #[.int .u64 (wd e.set 0), .int .u64 (wd e.set 1), .int .u64 (wd e.set 2), .int .u64 (wd e.set 3), .bool e.star, .bool e.self]
theorem elV_size (e : El) : (elV e).size = 6 := rfl
theorem elV_one (e : El) : (elV e).all (·.oneCell') = true := by simp [elV, Value.oneCell']
def fstRes : Option (El × Nat) → Value
 | some (e, k) => .tuple #[.agg (elV e), .int .i64 ((k : Int) + 1)]
 | none => .tuple #[.agg (elV ⟨false, false, fun _ => false⟩), .int .i64 0]
theorem info63 : (Tryd.prog.info? 108).map (fun i => (i.zero, i.size)) = some (some (.agg (#[.int .u64 0, .int .u64 0, .int .u64 0, .int .u64 0, .bool false, .bool false])), 6) := by kernel_rfl
theorem results_fst {w : World} {tmps : Array Value} {g : Nat} {e : El} {k : Int} {fr : Nat × Nat} (hp : tmps.getD 2 undef = .pointer (some ⟨g, 0, none⟩)) (hq : tmps.getD 3 undef = .int .i64 k) (hg : w.heap[g]? = some (.cells (elV e) 108 fr)) :
  (results Tryd.f55 tmps).run Tryd.prog w = .ok (.tuple #[.agg (elV e), .int .i64 k]) w := by
 have hi : (Tryd.prog.info? 108).map (·.size) = some (elV e).size := (zero_of_info (P := Tryd.prog) info63).2
 have hl := run_loadVar_row (P := Tryd.prog) w g 108 108 (elV e) fr _ hg Tryd.underlying108 rfl hi
 have hp' : tmps[2]?.getD undef = .pointer (some ⟨g, 0, none⟩) := by simpa using hp
 have hq' : tmps[3]?.getD undef = .int .i64 k := by simpa using hq
 simp [results, hp', hq', asAddr, hl, Result.andThen]
theorem byte_ne {x : UInt8} {k : Nat} (hk : k < 256) (h : x ≠ UInt8.ofNat k) : ((x.toNat : Int) == (k : Int)) = false := by
 rw [beq_eq_false_iff_ne]
 intro e
 apply h
 apply UInt8.toNat_inj.1
 simp
 omega
theorem elV_zero : (#[.int .u64 0, .int .u64 0, .int .u64 0, .int .u64 0, .bool false, .bool false] : Array Value) = elV ⟨false, false, fun _ => false⟩ := by
 unfold elV
 simp only [wd_none]
 rfl
set_option maxHeartbeats 400000 in
set_option maxRecDepth 100000 in
theorem first_text (s : ByteArray) (c : UInt8) (st : Bool) (w : World) (hs : s.size ≤ 4096) (hpos : 0 < s.size) (hc : s[0] = c) (hcs : (c = 42 ∧ st = true) ∨ (c = 63 ∧ st = false)) :
  Calls Tryd.prog 55 #[.string s] w (Bel (.tuple #[.agg (elV ⟨st, false, isText⟩), .int .i64 1]) w) := by
 have hv := (zero_of_info (P := Tryd.prog) info63).1
 have hi := (zero_of_info (P := Tryd.prog) info63).2
 have ht := textBytes_any
 obtain ⟨E, hE⟩ : ∃ E : El, (⟨st, false, isText⟩ : El) = E := ⟨_, rfl⟩
 have hVE : elV E = #[.int .u64 (wd isText 0), .int .u64 (wd isText 1), .int .u64 (wd isText 2), .int .u64 (wd isText 3), .bool st, .bool false] := by rw [← hE]; rfl
 rw [hE]
 unfold setV at ht
 generalize ((wd isText 0 : Nat) : Int) = a0 at *
 generalize ((wd isText 1 : Nat) : Int) = a1 at *
 generalize ((wd isText 2 : Nat) : Int) = a2 at *
 generalize ((wd isText 3 : Nat) : Int) = a3 at *
 have Ht := Lib.hid ht
 have hposi : (0 : Int) < (s.size : Int) := by omega
 clear ht hE
 rcases hcs with ⟨rfl, rfl⟩ | ⟨rfl, rfl⟩
 ·go_enter Tryd.func55, Tryd.ntmps55
  go_wp2_with fail
  refine (Ht.out _).mono ?_
  rintro ed W1 ⟨rfl, hb⟩
  have h0 := heap_new_below hb
  have hbl := below_new hb
  go_wp2_with (refine wpList_store_row rfl 108 _ _ rfl w.heap.size #[.int .u64 a0, .int .u64 a1, .int .u64 a2, .int .u64 a3, .bool true, .bool false] rfl rfl 108 _ h0 hi rfl (by simp [Value.oneCell']) ?_)
  exact bodyPost_ret (results_fst (e := E) rfl rfl (by rw [hVE]; exact setRow_heap W1 w.heap.size _ _ 108 _ h0)) rfl ⟨rfl, below_setRow hbl (Nat.le_refl _) _⟩
 ·go_enter Tryd.func55, Tryd.ntmps55
  go_wp2_with fail
  refine (Ht.out _).mono ?_
  rintro ed W1 ⟨rfl, hb⟩
  have h0 := heap_new_below hb
  have hbl := below_new hb
  go_wp2_with (refine wpList_store_row rfl 108 _ _ rfl w.heap.size #[.int .u64 a0, .int .u64 a1, .int .u64 a2, .int .u64 a3, .bool false, .bool false] rfl rfl 108 _ h0 hi rfl (by simp [Value.oneCell']) ?_)
  exact bodyPost_ret (results_fst (e := E) rfl rfl (by rw [hVE]; exact setRow_heap W1 w.heap.size _ _ 108 _ h0)) rfl ⟨rfl, below_setRow hbl (Nat.le_refl _) _⟩
/-- Where the first "]" stands behind a "[". -/
theorem index_open {s : ByteArray} {r : List UInt8} (h : s.data.toList = 91 :: r) : Lib.indexByte s.data.toList 93 = if r.contains 93 then ((r.idxOf 93 : Nat) : Int) + 1 else -1 := by
 rw [h]
 have key : ∀ l : List UInt8, Lib.indexByte l 93 = if l.contains 93 then ((l.idxOf 93 : Nat) : Int) else -1 := by
  intro l
  induction l with
  | nil => rfl
  | cons b l ih =>
   rw [Lib.indexByte, ih]
   by_cases hb : b = 93
   ·subst hb; simp
   ·have h1 : (b == 93) = false := beq_eq_false_iff_ne.2 hb
    have h2 : ((93 : UInt8) == b) = false := beq_eq_false_iff_ne.2 fun e => hb e.symm
    rw [List.contains_cons, h1, h2, Bool.false_or, List.idxOf_cons, h1]
    simp only [Bool.false_eq_true, if_false, cond_false]
    by_cases hc : l.contains 93 = true
    ·rw [if_pos hc, if_pos hc, if_neg (by simp <;> omega)]
     simp
    ·rw [if_neg hc, if_neg hc]; rfl
 rw [key, List.contains_cons, List.idxOf_cons]
 rw [show ((93 : UInt8) == 91) = false from rfl, show ((91 : UInt8) == 93) = false from rfl, Bool.false_or]
 simp only [cond_false]
 split <;> simp
theorem extract_mid (s : ByteArray) (c : UInt8) (r : List UInt8) (n : Nat) (h : s.data.toList = c :: r) : (s.extract 1 (n + 1)).data.toList = r.take n := by
 have := Lib.extract_toList s 1 (n + 1)
 rw [Lib.toList_data] at this
 rw [this, h]
 simp
set_option maxHeartbeats 400000 in
set_option maxRecDepth 100000 in
theorem first_set (s : ByteArray) (r : List UInt8) (w : World) (hs : s.size ≤ 4096) (hpos : 0 < s.size) (hc : s[0] = 91) (hsr : s.data.toList = 91 :: r) :
  Calls Tryd.prog 55 #[.string s] w (Bel (fstRes (firstEl 91 r)) w) := by
 have hv := (zero_of_info (P := Tryd.prog) info63).1
 have hi := (zero_of_info (P := Tryd.prog) info63).2
 have hv1 := (zero_of_info (P := Tryd.prog) info61).1
 have hi1 := (zero_of_info (P := Tryd.prog) info61).2
 have hposi : (0 : Int) < (s.size : Int) := by omega
 have hix := fun W => Tryd.strings_IndexByte s 93 W
 rw [show ((93 : Int).toNat.toUInt8) = (93 : UInt8) from rfl, index_open hsr] at hix
 have hfe : firstEl 91 r = if r.contains 93 then (setB (r.take (r.idxOf 93))).map fun S => (⟨false, false, S⟩, r.idxOf 93 + 1) else none := rfl
 rw [hfe]
 have hsz : s.size = r.length + 1 := by rw [Lib.size_eq, hsr]; rfl
 by_cases hr : r.contains 93 = true
 ·rw [if_pos hr] at hix ⊢
  have hidx : r.idxOf 93 < r.length := List.idxOf_lt_length_iff.2 (by simpa using hr)
  have hmid := extract_mid s 91 r (r.idxOf 93) hsr
  generalize r.idxOf 93 = n at *
  have hset := fun W h => setBetween_any (s.extract 1 (n + 1)) W h
  rw [hmid] at hset
  obtain ⟨m, hm⟩ : ∃ m, s.extract 1 (n + 1) = m := ⟨_, rfl⟩
  have hml : m.size ≤ 4096 := by
   rw [← hm, Lib.size_eq, hmid, List.length_take]; omega
  have hni : (n : Int) + 1 < (s.size : Int) := by omega
  rw [hm] at hset
  have Hset := Lib.hid (fun W => hset W hml)
  have Hix := Lib.hid hix
  clear hset hix hmid hfe hr hml
  cases hsb : setB (r.take n) with
  | none =>
   rw [hsb] at Hset
   go_enter Tryd.func55, Tryd.ntmps55
   go_wp2_with fail
   refine (Hix.out _).mono ?_
   rintro ed W1 ⟨rfl, rfl⟩
   go_wp2_with fail
   refine (Hset.out _).mono ?_
   rintro ed W1 ⟨rfl, hb⟩
   have h0 := heap_new_below hb
   have hbl := below_new hb
   clear hb
   simp only [setRes, ← zero4]
   have h0a : ∀ o, (W1.alloc o).heap[w.heap.size]? = _ := fun o => (Below.heap_alloc W1 o w.heap.size (Array.getElem?_eq_some_iff.1 h0).1).trans h0
   have hba : ∀ o, Below w.heap.size w (W1.alloc o) := fun o => hbl.alloc hbl.size o
   have H0a := Lib.hid h0a
   have Hba := Lib.hid hba
   clear h0 hbl h0a hba
   go_wp2_with (refine wpList_store_row rfl 108 _ _ rfl w.heap.size #[.int .u64 0, .int .u64 0, .int .u64 0, .int .u64 0, .bool false, .bool false] rfl rfl 108 _ (H0a.out _) hi rfl (by simp [Value.oneCell']) ?_)
   exact bodyPost_ret (results_fst (e := ⟨false, false, fun _ => false⟩) rfl rfl (by rw [← elV_zero]; exact setRow_heap _ w.heap.size _ _ 108 _ (H0a.out _))) rfl ⟨rfl, below_setRow (Hba.out _) (Nat.le_refl _) _⟩
  | some S =>
   rw [hsb] at Hset
   have hVE : elV ⟨false, false, S⟩ = #[.int .u64 (wd S 0), .int .u64 (wd S 1), .int .u64 (wd S 2), .int .u64 (wd S 3), .bool false, .bool false] := rfl
   obtain ⟨E, hE⟩ : ∃ E : El, (⟨false, false, S⟩ : El) = E := ⟨_, rfl⟩
   simp only [Option.map_some]
   rw [hE] at hVE ⊢
   have HVE := Lib.hid hVE
   clear hVE hE
   go_enter Tryd.func55, Tryd.ntmps55
   go_wp2_with fail
   refine (Hix.out _).mono ?_
   rintro ed W1 ⟨rfl, rfl⟩
   go_wp2_with fail
   refine (Hset.out _).mono ?_
   rintro ed W1 ⟨rfl, hb⟩
   have h0 := heap_new_below hb
   have hbl := below_new hb
   simp only [setRes, setV]
   have hVE := HVE.out
   generalize ((wd S 0 : Nat) : Int) = a0 at *
   generalize ((wd S 1 : Nat) : Int) = a1 at *
   generalize ((wd S 2 : Nat) : Int) = a2 at *
   generalize ((wd S 3 : Nat) : Int) = a3 at *
   have HVE := Lib.hid hVE
   have h0a : ∀ o, (W1.alloc o).heap[w.heap.size]? = _ := fun o => (Below.heap_alloc W1 o w.heap.size (Array.getElem?_eq_some_iff.1 h0).1).trans h0
   have hba : ∀ o, Below w.heap.size w (W1.alloc o) := fun o => hbl.alloc hbl.size o
   have H0a := Lib.hid h0a
   have Hba := Lib.hid hba
   clear hb hVE h0 hbl h0a hba
   go_wp2_with (refine wpList_store_row rfl 108 _ _ rfl w.heap.size #[.int .u64 a0, .int .u64 a1, .int .u64 a2, .int .u64 a3, .bool false, .bool false] rfl rfl 108 _ (H0a.out _) hi rfl (by simp [Value.oneCell']) ?_)
   exact bodyPost_ret (results_fst (e := E) rfl rfl (by rw [HVE.out]; exact setRow_heap _ w.heap.size _ _ 108 _ (H0a.out _))) rfl ⟨rfl, below_setRow (Hba.out _) (Nat.le_refl _) _⟩
 ·rw [if_neg hr] at hix ⊢
  have Hix := Lib.hid hix
  clear hix hfe hr hsr hsz
  go_enter Tryd.func55, Tryd.ntmps55
  go_wp2_with fail
  refine (Hix.out _).mono ?_
  rintro ed W1 ⟨rfl, rfl⟩
  go_wp2
  refine bodyPost_ret (results_fst (e := ⟨false, false, fun _ => false⟩) (fr := (0, 0)) rfl rfl ?_) rfl ⟨rfl, (Below.refl _ _).alloc (Nat.le_refl _) _⟩
  rw [← elV_zero]
  exact heap_alloc_last w _
end Go.Proofs.YtdlchlbngojljaaDoor.Gl
