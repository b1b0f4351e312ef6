/- Which texts are paths: a walk through a range over strings.SplitSeq. Which texts are names of links. -/
import Derived.Test.YtldcediiobfhiaaGreatDoorQNa
import Derived.Test.YtldcediiobfhiaaGreatDoorQNs
import Derived.RangeFuncBox
namespace Go.Proofs.YtldcediiobfhiaaGreatDoor.Nm
open Go.RowKit Go.Shelf
attribute [local go_sem] Oper.semAt_some
def splitWorld (w : World) (s sep : ByteArray) : World := ((w.alloc (.cells #[.string s] 9)).alloc (.cells #[.string sep] 9)).alloc (.cells #[.int .i64 0] 3)
def splitFn (n0 : Nat) : Value := .func (.func 171) #[] #[.pointer (some ⟨n0 + 1, 0, none⟩), .pointer (some ⟨n0, 0, none⟩), .pointer (some ⟨n0 + 2, 0, none⟩)]
set_option maxHeartbeats 400000 in
theorem splitSeq0_any (s sep : ByteArray) (w : World) :
  Calls Tryz.prog 154 #[.string s, .string sep, .int .i64 0] w fun e w' => e = .returned (splitFn w.heap.size) ∧ w' = splitWorld w s sep := by
 go_enter Tryz.func154, Tryz.ntmps154
 go_wp2
 go_ret
 exact ⟨rfl, rfl⟩
set_option maxHeartbeats 400000 in
theorem splitSeq_any (s sep : ByteArray) (w : World) :
  Calls Tryz.prog 126 #[.string s, .string sep] w fun e w' => e = .returned (splitFn w.heap.size) ∧ w' = splitWorld w s sep := by
 go_enter Tryz.func126, Tryz.ntmps126
 go_wp2_with (go_at_call 154; refine (splitSeq0_any _ _ _).mono ?_; rintro e w' ⟨rfl, rfl⟩)
 go_ret
 exact ⟨rfl, rfl⟩
theorem splitWorld_size (w : World) (s sep : ByteArray) : (splitWorld w s sep).heap.size = w.heap.size + 3 := by simp [splitWorld]
theorem splitWorld_below (w : World) (s sep : ByteArray) : Below w.heap.size w (splitWorld w s sep) :=
 (((Below.refl _ w).alloc (Nat.le_refl _) _).alloc (by simp) _).alloc (by simp; omega) _
theorem splitWorld_boxes (w : World) (s : ByteArray) (c : UInt8) : Boxes w.heap.size c s (splitWorld w s ⟨#[c]⟩) := by
 have h1 : (splitWorld w s ⟨#[c]⟩).heap[w.heap.size]? = some (.cells #[.string s] 9) := by
  unfold splitWorld
  rw [heap_alloc_old _ _ (by simp; omega), heap_alloc_old _ _ (by simp), heap_alloc_new]
 have h2 : (splitWorld w s ⟨#[c]⟩).heap[w.heap.size + 1]? = some (.cells #[.string ⟨#[c]⟩] 9) := by
  unfold splitWorld
  rw [heap_alloc_old _ _ (by simp)]
  exact heap_alloc2_new w _ _
 have h3 : (splitWorld w s ⟨#[c]⟩).heap[w.heap.size + 2]? = some (.cells #[.int .i64 0] 3) := by
  unfold splitWorld
  have := heap_alloc_new ((w.alloc (.cells #[.string s] 9)).alloc (.cells #[.string ⟨#[c]⟩] 9)) (.cells #[.int .i64 0] 3)
  simpa using this
 exact ⟨(cell_of_row _ _ _ _ _ _ h1).trans rfl, frozen_of_row _ _ _ _ _ h1, (cell_of_row _ _ _ _ _ _ h2).trans rfl, (cell_of_row _ _ _ _ _ _ h3).trans rfl⟩
theorem results_cell_one {fn : Func} {p : Tmp} {ty : TypeId} {tmps : Array Value} {w : World} {a : Addr} {v : Value} (h : fn.results = #[.cell p ty]) (hp : tmps.getD p undef = .pointer (some a))
  (hl : (loadVar ty a).run Tryz.prog w = .ok v w) : (results fn tmps).run Tryz.prog w = .ok v w := by
 have hp' : tmps[p]?.getD undef = .pointer (some a) := by simpa using hp
 simp [results, h, hp', asAddr, hl]
theorem load_bool {w : World} {a : Addr} {v : Bool} (hc : w.cell? a = some (.bool v)) : (loadVar 4 a).run Tryz.prog w = .ok (.bool v) w := by
 simp [go_sem, hc]
/-- A range over strings.SplitSeq at a separator of one byte. -/
theorem wp_rangeSplit {g : Operand} {ps : Array Tmp} {assign body : Code} {Q : Exit → Act → World → Prop} {a : Act} {n : Nat} (h1 : 1 ≤ n) (w : World) (s : ByteArray) (c : UInt8) (hs : s.size ≤ 4611686018427387904)
  (hg : a.eval g = splitFn w.heap.size) (hps : ps.size = 1)
  (I : List ByteArray → World → Prop) (Ix : Code → List ByteArray → World → Prop) (hI : OwnFrom (w.heap.size + 3) I) (hIx : ∀ c, OwnFrom (w.heap.size + 3) (Ix c))
  (hIR : ∀ pre A v, I pre A → I pre (A.setCell ⟨w.heap.size, 0, none⟩ v)) (h0 : I [] (splitWorld w s ⟨#[c]⟩)) (a₁ : ByteArray → Act)
  (hassign : ∀ (l : Nat) (x : ByteArray) (W : World) (K : Act → World → Prop), K (a₁ x) W →
   assign.wpIn (Fence.wide.inRound l) (n - 1 - 1) Tryz.prog (Exit.then K (fun _ _ _ => False)) { tmps := (ps.zip #[.string x]).foldl (fun t (p, v) => t.setIfInBounds p v) a.tmps, defers := [] } W)
  (hbody : ∀ (l : Nat) (pre : List ByteArray) (x : ByteArray) (W : World), I pre W → (∃ r, piecesB c s = pre ++ x :: r) →
   body.wpIn (Fence.wide.inRound l) (n - 1 - 1) Tryz.prog (ownPostG (w.heap.size + 3) (KpBox w.heap.size) I Ix (pre ++ [x]) W) (a₁ x) W)
  (hdone : ∀ (D : Nat) (W : World), w.heap.size + 3 ≤ D → I (piecesB c s) W → W.heap[D]? = some (.deferred (some [])) → Q .normal { a with defers := { target := .collected D, args := #[] } :: a.defers } W)
  (hstop : ∀ (D : Nat) (cd : Code) (pre : List ByteArray) (W : World), w.heap.size + 3 ≤ D → pre <+: piecesB c s → Ix cd pre W → W.heap[D]? = some (.deferred (some [])) →
   cd.wp Tryz.prog Q { a with defers := { target := .collected D, args := #[] } :: a.defers } W) :
  (Code.rangeFunc g ps assign body).wp Tryz.prog Q a (splitWorld w s ⟨#[c]⟩) := by
 have hsz := splitWorld_size w s ⟨#[c]⟩
 refine (wpIn_wide (n := n)).1 (wpIn_rangeSteps rfl h1 (gf := 171) (encs := fun x : ByteArray => #[.string x]) (R := StBox w.heap.size) (Kp := KpBox w.heap.size) (xs := piecesB c s) hg trivial (enters_of Tryz.func171 (by kernel_rfl) rfl)
  ?_ ?_ ?_ ?_ (fun x => by rw [hps]; rfl) I Ix (by rw [hsz]; exact hI) (by rw [hsz]; exact hIx) ?_ h0 a₁ hassign ?_ ?_ ?_)
 ·intro W1 hb
  have hb' := splitWorld_boxes w s c
  refine split_steps _ _ _ _ hs _ (hb'.kept fun k _ h2 => hb.block k (by rw [hsz]; exact h2))
 ·intro A B C h k j h2 h3
  exact (k j h2 h3).trans (h j h2 h3)
 ·intro W k o hk j h2 h3
  exact World.putObj_heap_other (by omega)
 ·rintro A B k hk ⟨v, rfl⟩
  exact Below.heap_setCell _ _ _ _ (by show k ≠ w.heap.size; omega)
 ·rintro pre A B hA ⟨v, rfl⟩
  exact hIR pre A v hA
 ·rw [hsz]; exact hbody
 ·rw [hsz]; exact hdone
 ·rw [hsz]
  intro D cd pre W hD hp hx hd
  exact (wpIn_wide (n := n)).2 (hstop D cd pre W hD hp hx hd)
/-- All blocks of ws but block m lie as they lay. -/
structure Around (m : Nat) (ws W : World) : Prop where
 os : W.os = ws.os
 tape : W.tape = ws.tape
 output : W.output = ws.output
 size : ws.heap.size ≤ W.heap.size
 block : ∀ k, k < ws.heap.size → k ≠ m → W.heap[k]? = ws.heap[k]?
theorem Around.refl (m : Nat) (ws : World) : Around m ws ws := ⟨rfl, rfl, rfl, Nat.le_refl _, fun _ _ _ => rfl⟩
theorem Around.set {m : Nat} {ws W : World} (h : Around m ws W) (v : Value) : Around m ws (W.setCell ⟨m, 0, none⟩ v) :=
 ⟨h.os, h.tape, h.output, by simpa [World.setCell] using h.size, fun k hk hm => (Below.heap_setCell _ _ _ _ (by exact hm)).trans (h.block k hk hm)⟩
theorem Around.drewN {m : Nat} {ws W : World} (h : Around m ws W) (n : Nat) : Around m ws (W.drewN n) := ⟨h.os, h.tape, h.output, h.size, h.block⟩
theorem Around.own {β : Type} {B : Nat} (p : β → Prop) (m : Nat) (ws : World) (hB : ws.heap.size ≤ B) : OwnFrom B (fun s W => p s ∧ Around m ws W) := by
 rintro s A C row ⟨hp, hA⟩ hg hr
 exact ⟨hp, hg.os.trans hA.os, hg.tape.trans hA.tape, hg.output.trans hA.output, Nat.le_trans hA.size hg.size, fun k hk hm =>
  (hg.block k (Nat.lt_of_lt_of_le hk hA.size) (fun e => by have := (hr k e.symm).1; omega)).trans (hA.block k hk hm)⟩
theorem Around.below {m B : Nat} {ws W : World} (h : Around m ws W) (hm : B ≤ m) (hB : B ≤ ws.heap.size) : Below B ws W :=
 ⟨h.os, h.tape, h.output, h.size, fun k hk => h.block k (by omega) (by omega)⟩
theorem Around.cell {m : Nat} {ws W : World} (h : Around m ws W) {a : Addr} (hk : a.block < ws.heap.size) (hm : a.block ≠ m) : W.cell? a = ws.cell? a := World.cell?_of_block (h.block _ hk hm)
theorem Around.frozen {m : Nat} {ws W : World} (h : Around m ws W) {a : Addr} (hk : a.block < ws.heap.size) (hm : a.block ≠ m) : W.frozen? a = ws.frozen? a := World.frozen?_of_block (h.block _ hk hm)
theorem pieces_len (c : UInt8) : ∀ l, ∀ p ∈ pieces c l, p.length ≤ l.length
 | [], p, h => by simp [pieces] at h; subst h; simp
 | x :: r, p, h => by
  have ih := pieces_len c r
  unfold pieces at h
  split at h
  ·simp only [List.mem_cons] at h
   rcases h with rfl | h
   ·simp
   ·have := ih p h; simp; omega
  ·split at h
   ·simp at h; subst h; simp
   ·rename_i q qs hq
    rw [hq] at ih
    simp only [List.mem_cons] at h
    rcases h with rfl | h
    ·have := ih q (List.mem_cons_self ..); simp; omega
    ·have := ih p (List.mem_cons_of_mem _ h); simp; omega
theorem piecesB_size {c : UInt8} {s x : ByteArray} (h : x ∈ piecesB c s) : x.size ≤ s.size := by
 obtain ⟨p, hp, rfl⟩ := List.mem_map.1 h
 have := pieces_len c _ p hp
 rw [← Lib.size_eq] at this
 show p.toArray.size ≤ s.size
 rw [List.size_toArray]
 exact this
theorem piecesB_size' {c : UInt8} {s x : ByteArray} {pre : List ByteArray} (h : ∃ r, piecesB c s = pre ++ x :: r) : x.size ≤ s.size := by
 obtain ⟨r, hr⟩ := h
 exact piecesB_size (c := c) (by rw [hr]; simp)
theorem cell_putObj {W : World} {k : Nat} (o : Obj) {a : Addr} (h : a.block ≠ k) : (W.putObj k o).cell? a = W.cell? a := World.cell?_of_block (World.putObj_heap_other h)
theorem below_putObj {B : Nat} {w0 W : World} (h : Below B w0 W) {k : Nat} (hk : B ≤ k) (o : Obj) : Below B w0 (W.putObj k o) :=
 h.trans ⟨rfl, rfl, rfl, by simp, fun j hj => World.putObj_heap_other (by omega)⟩
theorem ownFrom_cell {β : Type} {B : Nat} (p : β → Prop) {w0 : World} {n0 : Nat} {a : Addr} {v : Value} (ha : a.block < B) (hn : n0 ≤ w0.heap.size) (hB : n0 ≤ B) :
  OwnFrom B (fun (s : β) W => p s ∧ W.cell? a = some v ∧ Below n0 w0 W) := by
 rintro s A C row ⟨hp, hc, hb⟩ hg hr
 refine ⟨hp, (World.cell?_of_block (hg.block _ (block_lt_of_cell hc) fun e => ?_)).trans hc, ownFrom_below (β := Unit) hn hB () A C row hb hg hr⟩
 have := (hr _ e.symm).1
 omega
theorem piecesB_all (c : UInt8) (s : ByteArray) (f : List UInt8 → Bool) : ((piecesB c s).all fun x => f x.data.toList) = (pieces c s.data.toList).all f := by
 simp [piecesB, List.all_map, Function.comp_def]
theorem all_prefix {α : Type} {f : α → Bool} {p l : List α} (h : p <+: l) (hf : p.all f = false) : l.all f = false := by
 obtain ⟨r, rfl⟩ := h
 rw [List.all_append, hf, Bool.false_and]
def isPathB : List UInt8 → Bool
 | [] => false
 | c :: r => c == 47 && (pieces 47 r).all (nameB NameSet)
end Go.Proofs.YtldcediiobfhiaaGreatDoor.Nm
namespace Go.Proofs.YtldcediiobfhiaaGreatDoor.Nm
open Go.RowKit Go.Shelf
attribute [local go_sem] Oper.semAt_some
def linkPart (l : List UInt8) : Bool := !l.isEmpty && !isDotsB l && allIn LinkSet l
def linkB (l : List UInt8) : Bool := decide (l.length ≤ 256) && (pieces 47 l).all linkPart
set_option maxHeartbeats 1000000 in
set_option maxRecDepth 100000 in
theorem link_any (s : ByteArray) (w : World) (hs : s.size ≤ 4611686018427387904) :
  Calls Tryz.prog 152 #[.string s] w (Bel (.bool (linkB s.data.toList)) w) := by
 have hsz := Lib.size_eq s
 refine (callsIn_wide (n := 5)).1 ?_
 refine callsIn_of_wp_marks Tryz.func152 rfl trivial (wpIn_wide.2 ?_) rfl
 simp only [Tryz.ntmps152, List.size_toArray, List.length_cons, List.length_nil, Nat.reduceAdd, Nat.reduceSub, Array.replicate_succ, Array.replicate_zero, List.push_toArray, List.append_toArray, List.nil_append, List.cons_append]
 by_cases hlong : s.size ≤ 256
 ·have hlong' : (s.size : Int) ≤ 256 := by omega
  have hdl : decide (256 < (s.size : Int)) = false := decide_eq_false (by omega)
  have hlk : linkB s.data.toList = (pieces 47 s.data.toList).all linkPart := by
   unfold linkB
   rw [decide_eq_true (by rw [← hsz]; exact hlong), Bool.true_and]
  have Hlk := Lib.hid hlk
  clear hlk hsz
  go_wp2_with fail
  refine (linkBytes_any _).mono ?_
  rintro e W1 ⟨rfl, hb⟩
  have hi' : (Tryz.prog.info? 120).map (·.size) = some (Lib.setCells LinkSet).size := by rw [Lib.setCells_size]; exact (zero_of_info (P := Tryz.prog) info46).2
  have hv := (zero_of_info (P := Tryz.prog) info46).1
  have Hi := Lib.hid hi'
  clear hi'
  go_wp2_with (first
   | (refine wpList_store_new W1 120 _ (Lib.setCells LinkSet) rfl _ _ rfl rfl rfl Hi.out (sizes_ok _) (Lib.setCells_one _) ?_)
   | (go_at_call 126; refine (splitSeq_any _ _ _).mono ?_; rintro e w' ⟨rfl, rfl⟩))
  have hz2 : (W1.alloc (.cells (Lib.setCells LinkSet) 120)).heap.size = W1.heap.size + 1 := World.size_alloc ..
  have hset := setAt_cells (heap_alloc_last W1 (.cells (Lib.setCells LinkSet) 120))
  have hbel : Below w.heap.size w (W1.alloc (.cells (Lib.setCells LinkSet) 120)) := (below_new hb).alloc (below_new hb).size _
  have hlt1 : w.heap.size < W1.heap.size := by have := hb.size; simp at this; omega
  have hc0' : (W1.alloc (.cells (Lib.setCells LinkSet) 120)).heap[w.heap.size]? = some (.cells #[.bool false] 4) := (Below.heap_alloc _ _ _ hlt1).trans (heap_new_below hb)
  clear hb Hi hv
  rw [← hz2]
  generalize W1.alloc (.cells (Lib.setCells LinkSet) 120) = W2 at *
  have hb0 : w.heap.size < W2.heap.size := by omega
  have hb1 : W1.heap.size < W2.heap.size := by omega
  clear hz2
  have hbs := splitWorld_below W2 s ⟨#[47]⟩
  refine wp_rangeSplit (n := 5) (by omega) W2 s 47 hs rfl rfl
   (fun pre W => (pre.all fun x => linkPart x.data.toList) = true ∧ Around W2.heap.size (splitWorld W2 s ⟨#[47]⟩) W)
   (fun cd pre W => (cd = .ret ∧ (pre.all fun x => linkPart x.data.toList) = false) ∧ W.cell? ⟨w.heap.size, 0, none⟩ = some (.bool false) ∧ Below w.heap.size w W)
   (Around.own _ _ _ (by rw [splitWorld_size]; exact Nat.le_refl _)) (fun cd => ownFrom_cell _ (by simp; omega) (Nat.le_refl _) (by omega))
   (fun pre A v h => ⟨h.1, h.2.set v⟩) ⟨rfl, Around.refl _ _⟩
   (fun x => { tmps := #[.string s, undef, .pointer (some ⟨w.heap.size, 0, none⟩), .pointer (some ⟨W1.heap.size, 0, none⟩), .string x, .string s, .int .i64 s.size, .bool false,
    .agg (Lib.setCells LinkSet), .string s, splitFn W2.heap.size, .string x, undef, undef, undef, undef, undef, undef, undef, undef, undef, undef, undef], defers := [] }) ?assign ?body ?done ?stop
  case assign =>
   intro l x W K hK
   gi_wp2
   exact hK
  case body =>
   rintro l pre x W ⟨hall, hA⟩ hx
   have hxs : x.size ≤ 4611686018427387904 := by have := piecesB_size' hx; omega
   have hsA : SetAt W W1.heap.size LinkSet := fun z => by
    rw [hA.cell (by simp [splitWorld_size]; omega) (by simp; omega)]
    exact (hbs.cell (p := ⟨W1.heap.size, z.toNat, none⟩) hb1).trans (hset z)
   have hcA : W.cell? ⟨w.heap.size, 0, none⟩ = some (.bool false) := by
    rw [hA.cell (by simp [splitWorld_size]; omega) (by simp; omega)]
    exact (hbs.cell (p := ⟨w.heap.size, 0, none⟩) hb0).trans ((cell_of_row _ _ _ _ _ _ hc0').trans rfl)
   have hfA : W.frozen? ⟨w.heap.size, 0, none⟩ = false := by
    rw [hA.frozen (by simp [splitWorld_size]; omega) (by simp; omega)]
    exact (hbs.frozen (p := ⟨w.heap.size, 0, none⟩) hb0).trans (frozen_of_row _ _ _ _ _ hc0')
   have hn := consists_any x W1.heap.size LinkSet W hxs hsA
   have hd := isDots_any x W
   have hbel2 : Below w.heap.size w W := hbel.trans ((hbs.mono (by omega)).trans (hA.below (by omega) (by rw [splitWorld_size]; omega)))
   have Hall := Lib.hid hall
   have HA := Lib.hid hA
   clear hall hA hsA hset hc0' hbs hbel
   by_cases he : x.data.toList = []
   ·have hq : linkPart x.data.toList = false := by simp [linkPart, he]
    have he' := empty_form he
    have Hq := Lib.hid hq
    clear hn hq he hd
    gi_wp2
    refine ⟨trivial, ?_⟩
    gi_wp2
    refine ⟨trivial, ?_⟩
    gi_wp2
    refine ⟨(KeepsOthers.setCell W _ _).from _ |> fun h => ⟨h.size, h.same⟩, ⟨rfl, by rw [List.all_append]; simp [Hq.out]⟩, World.cell?_setCell_same' _ _ _ (by simp [hcA]), ?_⟩
    exact hbel2.setCell (Nat.le_refl _) _
   ·have he' := nonempty_form he
    cases hdd : isDotsB x.data.toList with
    | true =>
     rw [hdd] at hd
     have hq : linkPart x.data.toList = false := by simp [linkPart, hdd]
     have Hq := Lib.hid hq
     have Hd := Lib.hid hd
     clear hn hq he hd hdd
     gi_wp2_with fail
     refine ⟨trivial, (CallsIn.inRound l (callsIn_wide.2 Hd.out)).mono ?_⟩
     rintro e w' ⟨rfl, rfl⟩
     gi_wp2
     refine ⟨trivial, ?_⟩
     gi_wp2
     refine ⟨(KeepsOthers.setCell w' _ _).from _ |> fun h => ⟨h.size, h.same⟩, ⟨rfl, by rw [List.all_append]; simp [Hq.out]⟩, World.cell?_setCell_same' _ _ _ (by simp [hcA]), ?_⟩
     exact hbel2.setCell (Nat.le_refl _) _
    | false =>
     rw [hdd] at hd
     have hq : linkPart x.data.toList = allIn LinkSet x.data.toList := by
      have hle : x.data.toList.isEmpty = false := by rw [← Lib.toList_data]; exact he'
      unfold linkPart
      rw [hdd, hle]
      rfl
     have Hd := Lib.hid hd
     clear hd hdd he
     cases hal : allIn LinkSet x.data.toList with
     | true =>
      rw [hal] at hn hq
      have Hq := Lib.hid hq
      have Hn := Lib.hid hn
      clear hq hn hal
      gi_wp2_with fail
      refine ⟨trivial, (CallsIn.inRound l (callsIn_wide.2 Hd.out)).mono ?_⟩
      rintro e w' ⟨rfl, rfl⟩
      gi_wp2_with fail
      refine ⟨trivial, (CallsIn.inRound l (callsIn_wide.2 Hn.out)).mono ?_⟩
      rintro e w'' ⟨rfl, n, rfl⟩
      gi_wp2
      exact ⟨⟨Nat.le_refl _, fun k o _ h _ => h⟩, fun k _ _ => rfl, by rw [List.all_append, Hall.out]; simp [Hq.out], HA.out.drewN n⟩
     | false =>
      rw [hal] at hn hq
      have Hq := Lib.hid hq
      have Hn := Lib.hid hn
      clear hq hn hal
      gi_wp2_with fail
      refine ⟨trivial, (CallsIn.inRound l (callsIn_wide.2 Hd.out)).mono ?_⟩
      rintro e w' ⟨rfl, rfl⟩
      gi_wp2_with fail
      refine ⟨trivial, (CallsIn.inRound l (callsIn_wide.2 Hn.out)).mono ?_⟩
      rintro e w'' ⟨rfl, n, rfl⟩
      gi_wp2
      refine ⟨(KeepsOthers.setCell (w'.drewN n) _ _).from _ |> fun h => ⟨h.size, h.same⟩, ⟨rfl, by rw [List.all_append]; simp [Hq.out]⟩, World.cell?_setCell_same' _ _ _ (by simp [hcA]), ?_⟩
      exact (drewN_below hbel2 n).setCell (Nat.le_refl _) _
  case done =>
   rintro D W hD ⟨hall, hA⟩ hK
   have hv : linkB s.data.toList = true := by rw [Hlk.out, ← piecesB_all, hall]
   have hcA : W.cell? ⟨w.heap.size, 0, none⟩ = some (.bool false) := by
    rw [hA.cell (by simp [splitWorld_size]; omega) (by simp; omega)]
    exact (hbs.cell (p := ⟨w.heap.size, 0, none⟩) hb0).trans ((cell_of_row _ _ _ _ _ _ hc0').trans rfl)
   have hfA : W.frozen? ⟨w.heap.size, 0, none⟩ = false := by
    rw [hA.frozen (by simp [splitWorld_size]; omega) (by simp; omega)]
    exact (hbs.frozen (p := ⟨w.heap.size, 0, none⟩) hb0).trans (frozen_of_row _ _ _ _ _ hc0')
   have hbel2 : Below w.heap.size w W := hbel.trans ((hbs.mono (by omega)).trans (hA.below (by omega) (by rw [splitWorld_size]; omega)))
   have Hv := Lib.hid hv
   clear hall hA hset hc0' hbs hbel hv
   have hK2 : (W.setCell ⟨w.heap.size, 0, none⟩ (.bool true)).heap[D]? = some (.deferred (some [])) := (Below.heap_setCell _ _ _ _ (by show D ≠ w.heap.size; omega)).trans hK
   have hcB : (W.setCell ⟨w.heap.size, 0, none⟩ (.bool true)).cell? ⟨w.heap.size, 0, none⟩ = some (.bool true) := World.cell?_setCell_same' _ _ _ (by rw [hcA]; rfl)
   have hbel3 : Below w.heap.size w (W.setCell ⟨w.heap.size, 0, none⟩ (.bool true)) := hbel2.setCell (Nat.le_refl _) _
   have HK := Lib.hid hK2
   have HC := Lib.hid hcB
   clear hK2 hcB hK
   go_wp2
   refine ⟨by simp, .inl ⟨_, _, rfl, run_takeDeferred HK.out, ?_⟩⟩
   exact ⟨.bool true, results_cell_one rfl rfl (load_bool (by rw [cell_putObj _ (by show w.heap.size ≠ D; omega)]; exact HC.out)), by rw [Hv.out], below_putObj hbel3 (by omega) _⟩
  case stop =>
   rintro D cd pre W hD hp ⟨⟨rfl, hbad⟩, hc, hbel2⟩ hK
   have hv : linkB s.data.toList = false := by rw [Hlk.out, ← piecesB_all, all_prefix hp hbad]
   have Hv := Lib.hid hv
   clear hset hc0' hbs hbel hv
   have HK := Lib.hid hK
   have HC := Lib.hid hc
   clear hK hc
   go_wp2
   refine ⟨by simp, .inl ⟨_, _, rfl, run_takeDeferred HK.out, ?_⟩⟩
   exact ⟨.bool false, results_cell_one rfl rfl (load_bool (by rw [cell_putObj _ (by show w.heap.size ≠ D; omega)]; exact HC.out)), by rw [Hv.out], below_putObj hbel2 (by omega) _⟩
 ·have hlong' : ¬ (s.size : Int) ≤ 256 := by omega
  have hv : linkB s.data.toList = false := by
   unfold linkB
   rw [decide_eq_false (by rw [← hsz]; exact hlong), Bool.false_and]
  have Hv := Lib.hid hv
  clear hsz hv
  go_wp2
  exact ⟨.bool false, results_cell_one rfl rfl (load_bool (by simp)), by rw [Hv.out], (Below.refl _ w).alloc (Nat.le_refl _) _⟩
end Go.Proofs.YtldcediiobfhiaaGreatDoor.Nm
