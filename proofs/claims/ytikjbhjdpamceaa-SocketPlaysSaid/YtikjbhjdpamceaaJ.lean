/- The reference's Send and Receive. -/
import Derived.Test.YtikjbhjdpamceaaI
import Derived.Test.YtikjbhjdpamceaaE
import Derived.Deep.RegionHeld3
import Derived.Deep.RegionLaw
import Derived.Great.BuildSlice
import Derived.OrdersHeld
namespace Go.Proofs.Ytikjbhjdpamceaa
open Go.RowKit

/-- A socket as a value. -/
def rsV (cap : Nat) (v : Value) (lost : Bool) : Value := .agg #[.int .i64 (cap : Int), v, .bool lost]

set_option maxHeartbeats 1000000 in
set_option maxRecDepth 100000 in
theorem refSend_full {w : World} {cap : Nat} {a : Option Addr} {l : List Ev} {c : Nat} {lost : Bool} (e : Ev) (hl : l.length = cap) :
    Calls Try.prog 15 #[.agg #[.int .i64 (cap : Int), .slice a l.length c, .bool lost], .agg #[.int .i64 e.seq, .int .i64 e.act, .int .i64 e.idx, .string e.path, .string e.old]] w fun r w' => r = .returned (.tuple #[.agg #[.int .i64 (cap : Int), .slice a l.length c, .bool true], .int .i64 61]) ∧ Kp [] w w' := by
  subst hl
  go_enter Try.func15, Try.ntmps15
  go_wp2
  refine bodyPost_ret (v := .tuple #[.agg #[.int .i64 (l.length : Int), .slice a l.length c, .bool true], .int .i64 61]) (by simp [results, Try.results15, go_sem]) rfl ⟨rfl, ?_⟩
  exact ((((Kp.refl [] w).alloc _).alloc _).alloc _)

/-- The slice v holds these events; an empty one is nil or has an address. -/
def EHas0 (w : World) (v : Value) (l : List Ev) : Prop := (v = .slice none 0 0 ∧ l = []) ∨ ∃ b o c, v = .slice (some ⟨b, o, none⟩) l.length c ∧ b < w.heap.size ∧ ERow w b o l ∧ l.length ≤ c ∧ c ≤ 9223372036854775807
theorem EHas0.form {w : World} {v : Value} {l : List Ev} (h : EHas0 w v l) : ∃ a c, v = .slice a l.length c := by
  rcases h with ⟨rfl, rfl⟩ | ⟨b, o, c, rfl, _⟩
  · exact ⟨none, 0, rfl⟩
  · exact ⟨_, _, rfl⟩
theorem EHas0.has {w : World} {v : Value} {l : List Ev} (h : EHas0 w v l) : EHas w v l := by
  rcases h with ⟨rfl, rfl⟩ | h
  · exact .inl ⟨none, 0, rfl, rfl⟩
  · obtain ⟨b, o, c, h1, h2, h3, _⟩ := h
    exact .inr ⟨b, o, c, h1, h2, h3⟩
theorem EHas0.keep {w w' : World} {v : Value} {l : List Ev} (h : EHas0 w v l) (hs : w.heap.size ≤ w'.heap.size) (hk : ∀ b, b < w.heap.size → v.ownBlock = some b → w'.heap[b]? = w.heap[b]?) : EHas0 w' v l := by
  rcases h with h | ⟨b, o, c, rfl, hb, hr, hc⟩
  · exact .inl h
  · refine .inr ⟨b, o, c, rfl, Nat.lt_of_lt_of_le hb hs, fun j x hx m u hu => ?_, hc⟩
    have := hr j x hx m u hu
    simp only [World.cell?, hk b hb rfl] at this ⊢
    exact this
theorem EHas0.kp {w w' : World} {v : Value} {l : List Ev} (h : EHas0 w v l) (hk : Kp [] w w') : EHas0 w' v l := h.keep hk.size fun b hb _ => hk.block b hb (by simp)
theorem EOwn.has0 {w : World} {B : Nat} {v : Value} {l : List Ev} (h : EOwn w B v l) : EHas0 w v l := by
  rcases h.2 with ⟨hv, hn⟩ | ⟨g, cap, cur, hv, hB, hh, hc, hcm, hcz, ht⟩
  · exact .inl ⟨hv, List.length_eq_zero_iff.1 hn⟩
  · exact .inr ⟨g, 0, cap, hv, block_lt hh, erow_of (cur := cur.toList) (by rw [Array.toArray_toList]; exact hh) ht, hc, hcm⟩
theorem ERow.src {w : World} {b o : Nat} {l : List Ev} (h : ERow w b o l) : ∀ j u, (evsC l)[j]? = some u → w.cell? ((⟨b, o, none⟩ : Addr).add j) = some u := fun j u hj => by
  have hadd : (⟨b, o, none⟩ : Addr).add j = ⟨b, o + j, none⟩ := by unfold Addr.add; split <;> simp_all
  rw [hadd]
  have hjl := (List.getElem?_eq_some_iff.1 hj).1
  rw [evsC_len] at hjl
  obtain ⟨x, hx⟩ : ∃ x, l[j / 5]? = some x := ⟨_, List.getElem?_eq_getElem (by omega)⟩
  have h1 := evsC_get l (j / 5) x (j % 5) hx (by omega)
  rw [show j / 5 * 5 + j % 5 = j by omega, hj] at h1
  have h2 := h (j / 5) x hx (j % 5) u h1.symm
  rwa [show o + j / 5 * 5 + j % 5 = o + j by omega] at h2
theorem build_has (w : World) (e : Ev) : EHas0 (w.alloc (.cells #[.int .i64 e.seq, .int .i64 e.act, .int .i64 e.idx, .string e.path, .string e.old] 42)) (.slice (some ⟨w.heap.size, 0, none⟩) 1 1) [e] :=
  .inr ⟨w.heap.size, 0, 1, rfl, by rw [al_size]; omega, erow_of (cur := evC e) (al_new w _) rfl, Nat.le_refl _, by simp⟩

theorem run_append_ev {w : World} {base : Nat} {v sv : Value} {xs news : List Ev} (ty : TypeId) (hown : EOwn w base v xs) (hsv : EHas0 w sv news) (hb1 : xs.length + news.length ≤ 1000000) (hb : base ≤ w.heap.size) :
    ∃ v' w', (Builtin.append_ #[23, 23] ty #[v, sv]).run Try.prog w = .ok v' w' ∧ EOwn w' base v' (xs ++ news) ∧ w.grownBy w' v.ownBlock := by
  obtain ⟨i0, hi0, hz0, hz1, hz2⟩ := info_parts info42
  rcases hsv with ⟨rfl, rfl⟩ | ⟨b, of, c, rfl, _, hr, _⟩
  · exact ⟨v, w, run_append_owned_none w base 23 ty 42 i0 5 Try.underlying23 hi0 v xs.length (evsC xs) hown, by rw [List.append_nil]; exact hown, ⟨rfl, rfl, rfl, Nat.le_refl _, fun _ _ _ => rfl⟩⟩
  · obtain ⟨v', w', h1, h2, h3, _⟩ := run_append_own (P := Try.prog) w base 23 ty 42 i0 _ 5 56 Try.underlying23 hi0 hz0 hz1 hz2 rfl (by decide) v xs.length (evsC xs) hown ⟨b, of, none⟩ news.length c (evsC news) (evsC_len news) hr.src (evsC_one news) (by unfold maxLen; omega) (by omega) hb
    refine ⟨v', w', h1, ?_, h3⟩
    unfold EOwn
    rw [List.length_append, evsC_append]
    exact h2

/-- An append of events in a plain region. -/
theorem wpList_append_ev {ops : Array Oper} {rest : List Oper} {o : Oper} {a : Act} {w : World} {Q : Exit → Act → World → Prop} (hg : o.guard = none) (s x : Operand)
    (hop : o.op = Op.call { callee := Callee.builtin Builtin.append, args := #[s, x], argTypes := #[23, 23] }) (base : Nat)
    (v : Value) (xs : List Ev) (hs : a.eval s = v) (hown : EOwn w base v xs) (sv : Value) (news : List Ev) (hx : a.eval x = sv) (hsv : EHas0 w sv news) (hb1 : xs.length + news.length ≤ 1000000) (hb : base ≤ w.heap.size)
    (hK : ∀ v' w', EOwn w' base v' (xs ++ news) → w.grownBy w' v.ownBlock → wpList Try.prog ops Q rest (a.put o.dst v') w') : wpList Try.prog ops Q (o :: rest) a w := by
  refine wpList_plain hg fun K hK' => ?_
  obtain ⟨v', w', h1, h2, h3⟩ := run_append_ev o.type hown hsv hb1 hb
  unfold Oper.wp
  simp [execOp, hop, resolve, invoke, builtin, hs, hx, h1, Result.andThen]
  exact hK' _ _ (hK v' w' h2 h3)

/-- One step of a region: an append of events to a row of the call's own. -/
theorem step_append_ev {ops : Array Oper} {o : Oper} {a : Act} {w : World} {K : Act → World → Prop} {Q : Exit → Act → World → Prop} {E : Prop}
    (hg : o.guard = none) (s x : Operand) (hop : o.op = Op.call { callee := Callee.builtin Builtin.append, args := #[s, x], argTypes := #[23, 23] }) (base : Nat)
    (v : Value) (xs : List Ev) (hs : a.eval s = v) (hown : EOwn w base v xs) (sv : Value) (news : List Ev) (hx : a.eval x = sv) (hsv : EHas0 w sv news) (hb1 : xs.length + news.length ≤ 1000000) (hb : base ≤ w.heap.size)
    (hK : ∀ v' w', EOwn w' base v' (xs ++ news) → w.grownBy w' v.ownBlock → K (a.put o.dst v') w') :
    if Region.wanted o (yielded ops a.tmps) = true then Oper.wp Try.prog o a w K Q else E := by
  have hw : Region.wanted o (yielded ops a.tmps) = true := by simp [Region.wanted, hg]
  rw [if_pos hw]
  have hrun := run_append_ev o.type hown hsv hb1 hb
  obtain ⟨v', w', h1, h2, h3⟩ := hrun
  unfold Oper.wp
  simp [execOp, hop, resolve, invoke, builtin, hs, hx, h1, Result.andThen]
  exact hK v' w' h2 h3

theorem step_build_row {P : Program} {ops : Array Oper} {o : Oper} {a : Act} {w : World} {K : Act → World → Prop} {Q : Exit → Act → World → Prop} {E : Prop} (hg : o.guard = none) (t e : TypeId) (x : Operand) (ho : o.op = .buildSlice t 1 #[(0, x)])
    (cs : Array Value) (ie : TypeInfo) (z : Value) (hx : a.eval x = .agg cs)
    (hu : P.underlying t = some (.slice e)) (hie : P.info? e = some ie) (hz : ie.zero = some z) (hs : ie.size = cs.size) (hpos : 0 < cs.size) (hsmall : cs.size ≤ 2 ^ 24)
    (h : K (a.put o.dst (.slice (some ⟨w.heap.size, 0, none⟩) 1 1)) (w.alloc (.cells cs e))) : if Region.wanted o (yielded ops a.tmps) = true then Oper.wp P o a w K Q else E := by
  have hw : Region.wanted o (yielded ops a.tmps) = true := by simp [Region.wanted, hg]
  rw [if_pos hw]
  refine wp_buildSlice t e 1 #[(0, x)] ho cs ie z hu hie hz (by rw [hs]; omega) (by rw [hs]; omega) ?_ h
  have hp : ((#[(0, x)] : Array (Nat × Operand)).map fun (i, x) => (i, a.eval x)).toList = (([Value.agg cs].zipIdx 0).map fun x => (x.2, x.1)) := by
    simp [hx]
  rw [hp, hs]
  have hf := Great.fill_whole hpos [Value.agg cs] ((Array.range (1 * cs.size)).map (z.cells[· % z.cells.size]!)) (fun v hv => by rw [List.mem_singleton.1 hv]; rfl) (by simp)
  rw [hf]
  congr 1
  simp [Value.cells]
theorem yieldsIf_load_row {P : Program} {ops : Array Oper} {S : World → Prop} {op : Oper} {a : Act} (hw : Region.wanted op (yielded ops a.tmps) = true) (ty : TypeId) (x : Operand) (ho : op.op = .load ty x)
    (g : Nat) (hx : a.eval x = .pointer (some ⟨g, 0, none⟩)) (t : TypeId) (cs : Array Value) (fr : Nat × Nat) (d : TypeDesc) (hS : ∀ w, S w → w.heap[g]? = some (.cells cs t fr))
    (hu : P.underlying ty = some d) (hd : (match d with | .struct _ | .array _ _ => true | _ => false) = true) (hi : (P.info? ty).map (·.size) = some cs.size) : YieldsIf P ops S op (.agg cs) a :=
  .inl ⟨hw, fun w hw' => by
    unfold execOp
    simp only [ho, hx, Instr.loadAt, Instr.sureAddr, Sem.run_bind, Sem.run_pure, Result.andThen_ok, run_loadVar_row w g t ty cs fr d (hS w hw') hu hd hi]⟩

theorem rs3 {w : World} {A : Nat} {x y z : Value} (h : w.heap[A]? = some (.cells #[x, y, z] 33 (0, 0))) : w.cell? ⟨A, 0, none⟩ = some x ∧ w.cell? ⟨A, 1, none⟩ = some y ∧ w.cell? ⟨A, 2, none⟩ = some z := by
  rw [cell_of_row _ _ _ _ _ _ h, cell_of_row _ _ _ _ _ _ h, cell_of_row _ _ _ _ _ _ h]
  exact ⟨rfl, rfl, rfl⟩
theorem frz {w : World} {A : Nat} {c : Array Value} {t : TypeId} (h : w.heap[A]? = some (.cells c t (0, 0))) : w.frozen? ⟨A, 0, none⟩ = false ∧ w.frozen? ⟨A, 1, none⟩ = false ∧ w.frozen? ⟨A, 2, none⟩ = false := by
  simp [World.frozen?, h]
/-- The world that Send of the reference leaves. -/
def sendW (w : World) (A Z cap : Nat) (v : Value) (lost : Bool) : World := (((w.setCell ⟨A, 1, none⟩ v).setCell ⟨Z, 0, none⟩ (.int .i64 (cap : Int))).setCell ⟨Z, 1, none⟩ v).setCell ⟨Z, 2, none⟩ (.bool lost)
theorem sendW_kp {w : World} {A Z cap : Nat} {v : Value} {lost : Bool} : Kp [A, Z] w (sendW w A Z cap v lost) :=
  ((((Kp.refl [A, Z] w).setCell (.inl (by simp)) _).setCell (.inl (by simp)) _).setCell (.inl (by simp)) _).setCell (.inl (by simp)) _
theorem send_fin1 {w : World} {A Z B cap : Nat} {v : Value} {l : List Ev} {lost : Bool} (h : EOwn w (Z + 1) v l) (hAZ : A < Z) (hB : B ≤ A) : EOwn (sendW w A Z cap v lost) B v l := by
  have h1 := h.kp (sendW_kp (A := A) (Z := Z) (cap := cap) (v := v) (lost := lost)) (fun b hb => by have := h.ge b hb; simp; omega)
  refine ⟨h1.1, ?_⟩
  rcases h1.2 with hn | ⟨g, cap', cur, hv, hg, rest⟩
  · exact .inl hn
  · exact .inr ⟨g, cap', cur, hv, by omega, rest⟩
theorem send_fin2 {w Wc w2 : World} {A Z cap : Nat} {v : Value} {lost : Bool} (h : Kp [] w Wc) (hb : Below (Z + 1) Wc w2) (hA : w.heap.size = A) (hAZ : A < Z) (hs : Wc.heap.size = Z + 1) : Kp [] w (sendW w2 A Z cap v lost) := by
  have h1 : Kp [] Wc w2 := Kp.of_below (by rw [hs]; exact hb)
  exact (h.trans h1).up sendW_kp (by simp; omega)

set_option maxHeartbeats 2000000 in
set_option maxRecDepth 100000 in
theorem refSend_any {w : World} {cap : Nat} {sv : Value} {l : List Ev} {lost : Bool} (e : Ev) (hl : l.length < cap) (hc : cap ≤ 256) (hv : EHas0 w sv l) :
    Calls Try.prog 15 #[.agg #[.int .i64 (cap : Int), sv, .bool lost], .agg #[.int .i64 e.seq, .int .i64 e.act, .int .i64 e.idx, .string e.path, .string e.old]] w fun r w' => ∃ v, r = .returned (.tuple #[.agg #[.int .i64 (cap : Int), v, .bool lost], .int .i64 0]) ∧ EOwn w' w.heap.size v (l ++ [e]) ∧ Kp [] w w' := by
  obtain ⟨a, c, rfl⟩ := hv.form
  obtain ⟨i0, hi0, hz0, hz1, hz2⟩ := info_parts info42
  have hlt : ¬ ((cap : Int) ≤ (l.length : Int)) := by omega
  obtain ⟨A, hA⟩ : ∃ A, w.heap.size = A := ⟨_, rfl⟩
  obtain ⟨E, hE⟩ : ∃ E, A + 1 = E := ⟨_, rfl⟩
  obtain ⟨Z, hZ⟩ : ∃ Z, E + 1 = Z := ⟨_, rfl⟩
  obtain ⟨Wc, hWc⟩ : ∃ Wc, ((w.alloc (.cells #[.int .i64 (cap : Int), .slice a l.length c, .bool lost] 33)).alloc (.cells #[.int .i64 e.seq, .int .i64 e.act, .int .i64 e.idx, .string e.path, .string e.old] 42)).alloc (.cells #[.int .i64 0, .slice none 0 0, .bool false] 33) = Wc := ⟨_, rfl⟩
  have hKc : Kp [] w Wc := by rw [← hWc]; exact (((Kp.refl [] w).alloc _).alloc _).alloc _
  have hWs : Wc.heap.size = Z + 1 := by rw [← hWc, al_size, al_size, al_size, ← hZ, ← hE, ← hA]
  have hA3 : Wc.heap[A]? = some (.cells #[.int .i64 (cap : Int), .slice a l.length c, .bool lost] 33 (0, 0)) := by
    rw [← hWc, ← hA, al_old _ _ (by rw [al_size, al_size]; omega), al_old _ _ (by rw [al_size]; omega), al_new]
  have hE3 : Wc.heap[E]? = some (.cells #[.int .i64 e.seq, .int .i64 e.act, .int .i64 e.idx, .string e.path, .string e.old] 42 (0, 0)) := by
    rw [← hWc, ← hE, ← hA, al_old _ _ (by rw [al_size, al_size]; omega)]
    have := al_new (w.alloc (.cells #[.int .i64 (cap : Int), .slice a l.length c, .bool lost] 33)) (.cells #[.int .i64 e.seq, .int .i64 e.act, .int .i64 e.idx, .string e.path, .string e.old] 42)
    rwa [al_size] at this
  have hZ3 : Wc.heap[Z]? = some (.cells #[.int .i64 0, .slice none 0 0, .bool false] 33 (0, 0)) := by
    rw [← hWc, ← hZ, ← hE, ← hA]
    have := al_new ((w.alloc (.cells #[.int .i64 (cap : Int), .slice a l.length c, .bool lost] 33)).alloc (.cells #[.int .i64 e.seq, .int .i64 e.act, .int .i64 e.idx, .string e.path, .string e.old] 42)) (.cells #[.int .i64 0, .slice none 0 0, .bool false] 33)
    rwa [al_size, al_size] at this
  have hsrc : ∀ W, Below (Z + 1) Wc W → EHas0 W (.slice a l.length c) l := fun W hb => hv.kp (hKc.trans (Kp.of_below (by rw [hWs]; exact hb)))
  have hAl : A < Z + 1 := by omega
  have hEl : E < Z + 1 := by omega
  have hZl : Z < Z + 1 := by omega
  have hAZ' : A < Z := by omega
  have hZA : Z ≠ A := by omega
  have hAZ : A ≠ Z := by omega
  have hEA : E ≠ A := by omega
  have hZ1 : w.heap.size ≤ A := by omega
  obtain ⟨q0, q1, q2⟩ := rs3 hA3
  have HSrc := Lib.hid hsrc
  have HKc := Lib.hid hKc
  have HWs := Lib.hid hWs
  have HA3 := Lib.hid hA3
  have HE3 := Lib.hid hE3
  have HZ3 := Lib.hid hZ3
  have HA := Lib.hid hA
  clear hv hsrc hKc hWs hA3 hE3 hZ3
  go_enter Try.func15, Try.ntmps15
  go_wp2_with fail
  clear hA hE hZ hWc hlt q0 q1 q2
  refine wp_region_held_drew (S := fun wx => wx.heap[E]? = some (.cells #[.int .i64 e.seq, .int .i64 e.act, .int .i64 e.idx, .string e.path, .string e.old] 42 (0, 0))) (by kernel_rfl) HE3.out (fun hHeld => ?_)
  refine wpAnyH_take (i := 0) (oi := { dst := some 14, op := Op.fieldAddr 33 (Operand.tmp 2) 1, type := 0, pos := "ref.go:27", after := #[], guard := none }) (v := .pointer (some ⟨A, 1, none⟩)) rfl (by kernel_rfl) (by kernel_rfl) (by kernel_rfl) (fun _ _ _ h => h) (Or.inl ⟨by rfl, fun w hSw => by go_simp⟩) (by assumption) ?_
  try simp only [Act.put, List.setIfInBounds_toArray, List.set_cons_zero, List.set_cons_succ]
  refine wpAnyH_take (i := 3) (oi := { dst := some 17, op := Op.load 42 (Operand.tmp 3), type := 42, pos := "ref.go:27", after := #[], guard := none }) (v := .agg #[.int .i64 e.seq, .int .i64 e.act, .int .i64 e.idx, .string e.path, .string e.old]) rfl (by kernel_rfl) (by kernel_rfl) (by kernel_rfl) (fun _ _ _ h => h) (yieldsIf_load_row (by rfl) 42 (.tmp 3) rfl E rfl 42 #[.int .i64 e.seq, .int .i64 e.act, .int .i64 e.idx, .string e.path, .string e.old] (0, 0) _ (fun w h => h) Try.underlying42 rfl size42) (by assumption) ?_
  try simp only [Act.put, List.setIfInBounds_toArray, List.set_cons_zero, List.set_cons_succ]
  refine wpAnyH_ready (rs := [1, 4]) (by kernel_rfl) (by simp) ?_
  refine AllReadyH.cons (o := { dst := some 15, op := Op.load 23 (Operand.tmp 14), type := 23, pos := "ref.go:27", after := #[{ on := 0, ground := Ground.data }], guard := none }) rfl (fun K hK => ?_) (AllReadyH.cons (o := { dst := some 18, op := Op.buildSlice 23 1 #[(0, Operand.tmp 17)], type := 23, pos := "ref.go:27", after := #[{ on := 3, ground := Ground.data }], guard := none }) rfl (fun K hK => ?_) AllReadyH.nil)
  · skip
    have a1 := (rs3 HA3.out).2.1
    have hAW : A < Wc.heap.size := by have := HWs.out; omega
    go_simp
    refine hK.out _ _ (((Below.refl (Z + 1) Wc).drew.block E hEl).trans HE3.out) (fun hHeld => ?_)
    try simp only [Act.put, List.setIfInBounds_toArray, List.set_cons_zero, List.set_cons_succ]
    clear hK
    clear a1 hAW
    refine wpAnyH_ready (rs := [2, 4]) (by kernel_rfl) (by simp) ?_
    refine AllReadyH.cons (o := { dst := some 16, op := Op.call { callee := Callee.builtin Builtin.append, args := #[Operand.const (Value.slice none 0 0), Operand.tmp 15], argTypes := #[23, 23] }, type := 23, pos := "ref.go:27", after := #[{ on := 1, ground := Ground.data }], guard := none }) rfl (fun K hK => ?_) (AllReadyH.cons (o := { dst := some 18, op := Op.buildSlice 23 1 #[(0, Operand.tmp 17)], type := 23, pos := "ref.go:27", after := #[{ on := 3, ground := Ground.data }], guard := none }) rfl (fun K hK => ?_) AllReadyH.nil)
    · skip
      refine step_append_ev rfl (.const (.slice none 0 0)) (.tmp 15) rfl (Z + 1) (.slice none 0 0) [] rfl (EOwn.nil _ _) _ l rfl (HSrc.out _ (Below.refl (Z + 1) Wc).drew) (by simp; omega) (Nat.le_trans (Nat.le_of_eq HWs.out.symm) ((Below.refl (Z + 1) Wc).drew).size) ?_
      intro v1 w1 hown1 hgr1
      have hb1 : Below (Z + 1) Wc w1 := (Below.refl (Z + 1) Wc).drew.grown hgr1 (Nat.le_trans (Nat.le_of_eq HWs.out.symm) ((Below.refl (Z + 1) Wc).drew).size) (fun k hk => by cases hk)
      refine hK.out _ _ ((hb1.block E hEl).trans HE3.out) (fun hHeld => ?_)
      try simp only [Act.put, List.setIfInBounds_toArray, List.set_cons_zero, List.set_cons_succ]
      clear hK
      refine wpAnyH_ready (rs := [4]) (by kernel_rfl) (by simp) ?_
      refine AllReadyH.cons (o := { dst := some 18, op := Op.buildSlice 23 1 #[(0, Operand.tmp 17)], type := 23, pos := "ref.go:27", after := #[{ on := 3, ground := Ground.data }], guard := none }) rfl (fun K hK => ?_) AllReadyH.nil
      refine step_build_row rfl 23 42 (.tmp 17) rfl #[.int .i64 e.seq, .int .i64 e.act, .int .i64 e.idx, .string e.path, .string e.old] i0 _ rfl Try.underlying23 hi0 hz0 (by rw [hz1]; rfl) (Nat.succ_pos 4) (by show (5 : Nat) ≤ 2 ^ 24; omega) ?_
      have hbb : Below (Z + 1) Wc (w1.alloc (.cells #[.int .i64 e.seq, .int .i64 e.act, .int .i64 e.idx, .string e.path, .string e.old] 42)) := hb1.alloc (Nat.le_trans (Nat.le_of_eq HWs.out.symm) (hb1).size) _
      have hcb : EHas0 (w1.alloc (.cells #[.int .i64 e.seq, .int .i64 e.act, .int .i64 e.idx, .string e.path, .string e.old] 42)) (.slice (some ⟨w1.heap.size, 0, none⟩) 1 1) [e] := build_has w1 e
      refine hK.out _ _ ((hbb.block E hEl).trans HE3.out) (fun hHeld => ?_)
      try simp only [Act.put, List.setIfInBounds_toArray, List.set_cons_zero, List.set_cons_succ]
      clear hK
      refine wpAnyH_ready (rs := [5]) (by kernel_rfl) (by simp) ?_
      refine AllReadyH.cons (o := { dst := some 19, op := Op.call { callee := Callee.builtin Builtin.append, args := #[Operand.tmp 16, Operand.tmp 18], argTypes := #[23, 23] }, type := 23, pos := "ref.go:27", after := #[{ on := 2, ground := Ground.data }, { on := 4, ground := Ground.data }, { on := 2, ground := Ground.chain }], guard := none }) rfl (fun K hK => ?_) AllReadyH.nil
      refine step_append_ev rfl (.tmp 16) (.tmp 18) rfl (Z + 1) v1 ([] ++ l) rfl (EOwn.kp hown1 ((Kp.refl [] _).alloc _) (fun _ _ => by simp)) _ [e] rfl hcb (by simp; omega) (Nat.le_trans (Nat.le_of_eq HWs.out.symm) (hbb).size) ?_
      intro v2 w2 hown2 hgr2
      have hb2 : Below (Z + 1) Wc w2 := hbb.grown hgr2 (Nat.le_trans (Nat.le_of_eq HWs.out.symm) (hbb).size) (fun k hk => (EOwn.ge hown1 k hk))
      refine hK.out _ _ ((hb2.block E hEl).trans HE3.out) (fun hHeld => ?_)
      try simp only [Act.put, List.setIfInBounds_toArray, List.set_cons_zero, List.set_cons_succ]
      clear hK
      rw [List.nil_append] at hown2
      obtain ⟨a2, c2, hv2⟩ := hown2.form
      rw [List.length_append, show [e].length = 1 from rfl] at hv2
      subst hv2
      have HAw := Lib.hid ((hb2.block A hAl).trans HA3.out)
      have HZw := Lib.hid ((hb2.block Z hZl).trans HZ3.out)
      obtain ⟨a0, a1, a2'⟩ := rs3 HAw.out
      have fa := frz HAw.out
      have HO := Lib.hid hown2
      have HB2 := Lib.hid hb2
      clear hown1 hown2 hgr1 hgr2 hb1 hb2 
      refine wpAnyH_take (i := 6) (oi := { dst := some 20, op := Op.fieldAddr 33 (Operand.tmp 2) 1, type := 0, pos := "ref.go:27", after := #[{ on := 0, ground := Ground.phase }, { on := 1, ground := Ground.phase }, { on := 2, ground := Ground.phase }, { on := 3, ground := Ground.phase }, { on := 4, ground := Ground.phase }, { on := 5, ground := Ground.phase }], guard := none }) (v := .pointer (some ⟨A, 1, none⟩)) rfl (by kernel_rfl) (by kernel_rfl) (by kernel_rfl) (fun _ _ _ h => h) (Or.inl ⟨by rfl, fun w hSw => by go_simp⟩) (by assumption) ?_
      try simp only [Act.put, List.setIfInBounds_toArray, List.set_cons_zero, List.set_cons_succ]
      refine wpAnyH_ready (rs := [7]) (by kernel_rfl) (by simp) ?_
      refine AllReadyH.cons (o := { dst := none, op := Op.store 23 (Operand.tmp 20) (Operand.tmp 19), type := 0, pos := "ref.go:27", after := #[{ on := 6, ground := Ground.data }, { on := 5, ground := Ground.data }, { on := 5, ground := Ground.chain }, { on := 0, ground := Ground.phase }, { on := 1, ground := Ground.phase }, { on := 2, ground := Ground.phase }, { on := 3, ground := Ground.phase }, { on := 4, ground := Ground.phase }, { on := 5, ground := Ground.phase }], guard := none }) rfl (fun K hK => ?_) AllReadyH.nil
      go_simp
      have hZw := Lib.hid (show (w2.setCell ⟨A, 1, none⟩ (.slice a2 (l.length + 1) c2)).heap[Z]? = some (.cells #[.int .i64 0, .slice none 0 0, .bool false] 33 (0, 0)) from (Below.heap_setCell _ _ _ _ hZA).trans HZw.out)
      have HO3 := Lib.hid (send_fin1 (cap := cap) (lost := lost) HO.out hAZ' hZ1)
      have HO4 := Lib.hid (send_fin2 (cap := cap) (lost := lost) (v := .slice a2 (l.length + 1) c2) HKc.out HB2.out HA.out hAZ' HWs.out)
      refine hK.out _ _ ((Below.heap_setCell _ _ _ _ hEA).trans ((HB2.out.block E hEl).trans HE3.out)) (fun hHeld => ?_)
      try simp only [Act.put, List.setIfInBounds_toArray, List.set_cons_zero, List.set_cons_succ]
      clear hK
      refine wpAnyH_done (by kernel_rfl) ?_ _
      clear hHeld
      obtain ⟨z0, z1, z2⟩ := rs3 hZw.out
      have fz := frz hZw.out
      go_wp2
      refine bodyPost_ret (v := .tuple #[.agg #[.int .i64 (cap : Int), .slice a2 (l.length + 1) c2, .bool lost], .int .i64 0]) (by simp [results, Try.results15, go_sem, z0, z1, z2]) rfl ?_
      exact ⟨_, rfl, HO3.out, HO4.out⟩
    · skip
      refine step_build_row rfl 23 42 (.tmp 17) rfl #[.int .i64 e.seq, .int .i64 e.act, .int .i64 e.idx, .string e.path, .string e.old] i0 _ rfl Try.underlying23 hi0 hz0 (by rw [hz1]; rfl) (Nat.succ_pos 4) (by show (5 : Nat) ≤ 2 ^ 24; omega) ?_
      have hbb : Below (Z + 1) Wc (Wc.drew.alloc (.cells #[.int .i64 e.seq, .int .i64 e.act, .int .i64 e.idx, .string e.path, .string e.old] 42)) := (Below.refl (Z + 1) Wc).drew.alloc (Nat.le_trans (Nat.le_of_eq HWs.out.symm) ((Below.refl (Z + 1) Wc).drew).size) _
      have hcb : EHas0 (Wc.drew.alloc (.cells #[.int .i64 e.seq, .int .i64 e.act, .int .i64 e.idx, .string e.path, .string e.old] 42)) (.slice (some ⟨Wc.drew.heap.size, 0, none⟩) 1 1) [e] := build_has Wc.drew e
      refine hK.out _ _ ((hbb.block E hEl).trans HE3.out) (fun hHeld => ?_)
      try simp only [Act.put, List.setIfInBounds_toArray, List.set_cons_zero, List.set_cons_succ]
      clear hK
      refine wpAnyH_ready (rs := [2]) (by kernel_rfl) (by simp) ?_
      refine AllReadyH.cons (o := { dst := some 16, op := Op.call { callee := Callee.builtin Builtin.append, args := #[Operand.const (Value.slice none 0 0), Operand.tmp 15], argTypes := #[23, 23] }, type := 23, pos := "ref.go:27", after := #[{ on := 1, ground := Ground.data }], guard := none }) rfl (fun K hK => ?_) AllReadyH.nil
      refine step_append_ev rfl (.const (.slice none 0 0)) (.tmp 15) rfl (Z + 1) (.slice none 0 0) [] rfl (EOwn.nil _ _) _ l rfl (HSrc.out _ hbb) (by simp; omega) (Nat.le_trans (Nat.le_of_eq HWs.out.symm) (hbb).size) ?_
      intro v1 w1 hown1 hgr1
      have hb1 : Below (Z + 1) Wc w1 := hbb.grown hgr1 (Nat.le_trans (Nat.le_of_eq HWs.out.symm) (hbb).size) (fun k hk => by cases hk)
      have hpz := EHas0.kp hcb (Kp.of_grown_none hgr1)
      refine hK.out _ _ ((hb1.block E hEl).trans HE3.out) (fun hHeld => ?_)
      try simp only [Act.put, List.setIfInBounds_toArray, List.set_cons_zero, List.set_cons_succ]
      clear hK
      refine wpAnyH_ready (rs := [5]) (by kernel_rfl) (by simp) ?_
      refine AllReadyH.cons (o := { dst := some 19, op := Op.call { callee := Callee.builtin Builtin.append, args := #[Operand.tmp 16, Operand.tmp 18], argTypes := #[23, 23] }, type := 23, pos := "ref.go:27", after := #[{ on := 2, ground := Ground.data }, { on := 4, ground := Ground.data }, { on := 2, ground := Ground.chain }], guard := none }) rfl (fun K hK => ?_) AllReadyH.nil
      refine step_append_ev rfl (.tmp 16) (.tmp 18) rfl (Z + 1) v1 ([] ++ l) rfl hown1 _ [e] rfl hpz (by simp; omega) (Nat.le_trans (Nat.le_of_eq HWs.out.symm) (hb1).size) ?_
      intro v2 w2 hown2 hgr2
      have hb2 : Below (Z + 1) Wc w2 := hb1.grown hgr2 (Nat.le_trans (Nat.le_of_eq HWs.out.symm) (hb1).size) (fun k hk => (EOwn.ge hown1 k hk))
      refine hK.out _ _ ((hb2.block E hEl).trans HE3.out) (fun hHeld => ?_)
      try simp only [Act.put, List.setIfInBounds_toArray, List.set_cons_zero, List.set_cons_succ]
      clear hK
      rw [List.nil_append] at hown2
      obtain ⟨a2, c2, hv2⟩ := hown2.form
      rw [List.length_append, show [e].length = 1 from rfl] at hv2
      subst hv2
      have HAw := Lib.hid ((hb2.block A hAl).trans HA3.out)
      have HZw := Lib.hid ((hb2.block Z hZl).trans HZ3.out)
      obtain ⟨a0, a1, a2'⟩ := rs3 HAw.out
      have fa := frz HAw.out
      have HO := Lib.hid hown2
      have HB2 := Lib.hid hb2
      clear hown1 hown2 hgr1 hgr2 hb1 hb2 
      refine wpAnyH_take (i := 6) (oi := { dst := some 20, op := Op.fieldAddr 33 (Operand.tmp 2) 1, type := 0, pos := "ref.go:27", after := #[{ on := 0, ground := Ground.phase }, { on := 1, ground := Ground.phase }, { on := 2, ground := Ground.phase }, { on := 3, ground := Ground.phase }, { on := 4, ground := Ground.phase }, { on := 5, ground := Ground.phase }], guard := none }) (v := .pointer (some ⟨A, 1, none⟩)) rfl (by kernel_rfl) (by kernel_rfl) (by kernel_rfl) (fun _ _ _ h => h) (Or.inl ⟨by rfl, fun w hSw => by go_simp⟩) (by assumption) ?_
      try simp only [Act.put, List.setIfInBounds_toArray, List.set_cons_zero, List.set_cons_succ]
      refine wpAnyH_ready (rs := [7]) (by kernel_rfl) (by simp) ?_
      refine AllReadyH.cons (o := { dst := none, op := Op.store 23 (Operand.tmp 20) (Operand.tmp 19), type := 0, pos := "ref.go:27", after := #[{ on := 6, ground := Ground.data }, { on := 5, ground := Ground.data }, { on := 5, ground := Ground.chain }, { on := 0, ground := Ground.phase }, { on := 1, ground := Ground.phase }, { on := 2, ground := Ground.phase }, { on := 3, ground := Ground.phase }, { on := 4, ground := Ground.phase }, { on := 5, ground := Ground.phase }], guard := none }) rfl (fun K hK => ?_) AllReadyH.nil
      go_simp
      have hZw := Lib.hid (show (w2.setCell ⟨A, 1, none⟩ (.slice a2 (l.length + 1) c2)).heap[Z]? = some (.cells #[.int .i64 0, .slice none 0 0, .bool false] 33 (0, 0)) from (Below.heap_setCell _ _ _ _ hZA).trans HZw.out)
      have HO3 := Lib.hid (send_fin1 (cap := cap) (lost := lost) HO.out hAZ' hZ1)
      have HO4 := Lib.hid (send_fin2 (cap := cap) (lost := lost) (v := .slice a2 (l.length + 1) c2) HKc.out HB2.out HA.out hAZ' HWs.out)
      refine hK.out _ _ ((Below.heap_setCell _ _ _ _ hEA).trans ((HB2.out.block E hEl).trans HE3.out)) (fun hHeld => ?_)
      try simp only [Act.put, List.setIfInBounds_toArray, List.set_cons_zero, List.set_cons_succ]
      clear hK
      refine wpAnyH_done (by kernel_rfl) ?_ _
      clear hHeld
      obtain ⟨z0, z1, z2⟩ := rs3 hZw.out
      have fz := frz hZw.out
      go_wp2
      refine bodyPost_ret (v := .tuple #[.agg #[.int .i64 (cap : Int), .slice a2 (l.length + 1) c2, .bool lost], .int .i64 0]) (by simp [results, Try.results15, go_sem, z0, z1, z2]) rfl ?_
      exact ⟨_, rfl, HO3.out, HO4.out⟩
  · skip
    refine step_build_row rfl 23 42 (.tmp 17) rfl #[.int .i64 e.seq, .int .i64 e.act, .int .i64 e.idx, .string e.path, .string e.old] i0 _ rfl Try.underlying23 hi0 hz0 (by rw [hz1]; rfl) (Nat.succ_pos 4) (by show (5 : Nat) ≤ 2 ^ 24; omega) ?_
    have hbb : Below (Z + 1) Wc (Wc.drew.alloc (.cells #[.int .i64 e.seq, .int .i64 e.act, .int .i64 e.idx, .string e.path, .string e.old] 42)) := (Below.refl (Z + 1) Wc).drew.alloc (Nat.le_trans (Nat.le_of_eq HWs.out.symm) ((Below.refl (Z + 1) Wc).drew).size) _
    have hcb : EHas0 (Wc.drew.alloc (.cells #[.int .i64 e.seq, .int .i64 e.act, .int .i64 e.idx, .string e.path, .string e.old] 42)) (.slice (some ⟨Wc.drew.heap.size, 0, none⟩) 1 1) [e] := build_has Wc.drew e
    refine hK.out _ _ ((hbb.block E hEl).trans HE3.out) (fun hHeld => ?_)
    try simp only [Act.put, List.setIfInBounds_toArray, List.set_cons_zero, List.set_cons_succ]
    clear hK
    refine wpAnyH_ready (rs := [1]) (by kernel_rfl) (by simp) ?_
    refine AllReadyH.cons (o := { dst := some 15, op := Op.load 23 (Operand.tmp 14), type := 23, pos := "ref.go:27", after := #[{ on := 0, ground := Ground.data }], guard := none }) rfl (fun K hK => ?_) AllReadyH.nil
    have a1 := (rs3 HA3.out).2.1
    have hAW : A < Wc.heap.size := by have := HWs.out; omega
    go_simp
    refine hK.out _ _ ((hbb.block E hEl).trans HE3.out) (fun hHeld => ?_)
    try simp only [Act.put, List.setIfInBounds_toArray, List.set_cons_zero, List.set_cons_succ]
    clear hK
    clear a1 hAW
    refine wpAnyH_ready (rs := [2]) (by kernel_rfl) (by simp) ?_
    refine AllReadyH.cons (o := { dst := some 16, op := Op.call { callee := Callee.builtin Builtin.append, args := #[Operand.const (Value.slice none 0 0), Operand.tmp 15], argTypes := #[23, 23] }, type := 23, pos := "ref.go:27", after := #[{ on := 1, ground := Ground.data }], guard := none }) rfl (fun K hK => ?_) AllReadyH.nil
    refine step_append_ev rfl (.const (.slice none 0 0)) (.tmp 15) rfl (Z + 1) (.slice none 0 0) [] rfl (EOwn.nil _ _) _ l rfl (HSrc.out _ hbb) (by simp; omega) (Nat.le_trans (Nat.le_of_eq HWs.out.symm) (hbb).size) ?_
    intro v1 w1 hown1 hgr1
    have hb1 : Below (Z + 1) Wc w1 := hbb.grown hgr1 (Nat.le_trans (Nat.le_of_eq HWs.out.symm) (hbb).size) (fun k hk => by cases hk)
    have hpz := EHas0.kp hcb (Kp.of_grown_none hgr1)
    refine hK.out _ _ ((hb1.block E hEl).trans HE3.out) (fun hHeld => ?_)
    try simp only [Act.put, List.setIfInBounds_toArray, List.set_cons_zero, List.set_cons_succ]
    clear hK
    refine wpAnyH_ready (rs := [5]) (by kernel_rfl) (by simp) ?_
    refine AllReadyH.cons (o := { dst := some 19, op := Op.call { callee := Callee.builtin Builtin.append, args := #[Operand.tmp 16, Operand.tmp 18], argTypes := #[23, 23] }, type := 23, pos := "ref.go:27", after := #[{ on := 2, ground := Ground.data }, { on := 4, ground := Ground.data }, { on := 2, ground := Ground.chain }], guard := none }) rfl (fun K hK => ?_) AllReadyH.nil
    refine step_append_ev rfl (.tmp 16) (.tmp 18) rfl (Z + 1) v1 ([] ++ l) rfl hown1 _ [e] rfl hpz (by simp; omega) (Nat.le_trans (Nat.le_of_eq HWs.out.symm) (hb1).size) ?_
    intro v2 w2 hown2 hgr2
    have hb2 : Below (Z + 1) Wc w2 := hb1.grown hgr2 (Nat.le_trans (Nat.le_of_eq HWs.out.symm) (hb1).size) (fun k hk => (EOwn.ge hown1 k hk))
    refine hK.out _ _ ((hb2.block E hEl).trans HE3.out) (fun hHeld => ?_)
    try simp only [Act.put, List.setIfInBounds_toArray, List.set_cons_zero, List.set_cons_succ]
    clear hK
    rw [List.nil_append] at hown2
    obtain ⟨a2, c2, hv2⟩ := hown2.form
    rw [List.length_append, show [e].length = 1 from rfl] at hv2
    subst hv2
    have HAw := Lib.hid ((hb2.block A hAl).trans HA3.out)
    have HZw := Lib.hid ((hb2.block Z hZl).trans HZ3.out)
    obtain ⟨a0, a1, a2'⟩ := rs3 HAw.out
    have fa := frz HAw.out
    have HO := Lib.hid hown2
    have HB2 := Lib.hid hb2
    clear hown1 hown2 hgr1 hgr2 hb1 hb2 
    refine wpAnyH_take (i := 6) (oi := { dst := some 20, op := Op.fieldAddr 33 (Operand.tmp 2) 1, type := 0, pos := "ref.go:27", after := #[{ on := 0, ground := Ground.phase }, { on := 1, ground := Ground.phase }, { on := 2, ground := Ground.phase }, { on := 3, ground := Ground.phase }, { on := 4, ground := Ground.phase }, { on := 5, ground := Ground.phase }], guard := none }) (v := .pointer (some ⟨A, 1, none⟩)) rfl (by kernel_rfl) (by kernel_rfl) (by kernel_rfl) (fun _ _ _ h => h) (Or.inl ⟨by rfl, fun w hSw => by go_simp⟩) (by assumption) ?_
    try simp only [Act.put, List.setIfInBounds_toArray, List.set_cons_zero, List.set_cons_succ]
    refine wpAnyH_ready (rs := [7]) (by kernel_rfl) (by simp) ?_
    refine AllReadyH.cons (o := { dst := none, op := Op.store 23 (Operand.tmp 20) (Operand.tmp 19), type := 0, pos := "ref.go:27", after := #[{ on := 6, ground := Ground.data }, { on := 5, ground := Ground.data }, { on := 5, ground := Ground.chain }, { on := 0, ground := Ground.phase }, { on := 1, ground := Ground.phase }, { on := 2, ground := Ground.phase }, { on := 3, ground := Ground.phase }, { on := 4, ground := Ground.phase }, { on := 5, ground := Ground.phase }], guard := none }) rfl (fun K hK => ?_) AllReadyH.nil
    go_simp
    have hZw := Lib.hid (show (w2.setCell ⟨A, 1, none⟩ (.slice a2 (l.length + 1) c2)).heap[Z]? = some (.cells #[.int .i64 0, .slice none 0 0, .bool false] 33 (0, 0)) from (Below.heap_setCell _ _ _ _ hZA).trans HZw.out)
    have HO3 := Lib.hid (send_fin1 (cap := cap) (lost := lost) HO.out hAZ' hZ1)
    have HO4 := Lib.hid (send_fin2 (cap := cap) (lost := lost) (v := .slice a2 (l.length + 1) c2) HKc.out HB2.out HA.out hAZ' HWs.out)
    refine hK.out _ _ ((Below.heap_setCell _ _ _ _ hEA).trans ((HB2.out.block E hEl).trans HE3.out)) (fun hHeld => ?_)
    try simp only [Act.put, List.setIfInBounds_toArray, List.set_cons_zero, List.set_cons_succ]
    clear hK
    refine wpAnyH_done (by kernel_rfl) ?_ _
    clear hHeld
    obtain ⟨z0, z1, z2⟩ := rs3 hZw.out
    have fz := frz hZw.out
    go_wp2
    refine bodyPost_ret (v := .tuple #[.agg #[.int .i64 (cap : Int), .slice a2 (l.length + 1) c2, .bool lost], .int .i64 0]) (by simp [results, Try.results15, go_sem, z0, z1, z2]) rfl ?_
    exact ⟨_, rfl, HO3.out, HO4.out⟩


/-- The world that Receive of the reference leaves. -/
theorem recv_kp {w : World} {A Z : Nat} {v1 v2 v3 v4 : Value} : Kp [A, Z] w ((((w.setCell ⟨A, 1, none⟩ v1).setCell ⟨Z, 0, none⟩ v2).setCell ⟨Z, 1, none⟩ v3).setCell ⟨Z, 2, none⟩ v4) :=
  ((((Kp.refl [A, Z] w).setCell (.inl (by simp)) _).setCell (.inl (by simp)) _).setCell (.inl (by simp)) _).setCell (.inl (by simp)) _
theorem EOwn.down {w : World} {B B' : Nat} {v : Value} {l : List Ev} (h : EOwn w B v l) (hB : B' ≤ B) : EOwn w B' v l := by
  refine ⟨h.1, ?_⟩
  rcases h.2 with hn | ⟨g, cap', cur, hv, hg, rest⟩
  · exact .inl hn
  · exact .inr ⟨g, cap', cur, hv, by omega, rest⟩

set_option maxHeartbeats 2000000 in
set_option maxRecDepth 100000 in
theorem refRecv_any {w : World} {cap : Nat} {sv : Value} {l : List Ev} {lost : Bool} (z : Int) (k : Nat) (hc : l.length ≤ 256) (hk : k ≤ l.length) (hmm : max 0 (min z (l.length : Int)) = (k : Int)) (hv : EHas0 w sv l) :
    Calls Try.prog 12 #[.agg #[.int .i64 (cap : Int), sv, .bool lost], .int .i64 z] w fun r w' => ∃ v u, r = .returned (.tuple #[.agg #[.int .i64 (cap : Int), v, .bool lost], u]) ∧ EOwn w' w.heap.size v (l.drop k) ∧ EOwn w' w.heap.size u (l.take k) ∧ Kp [] w w' := by
  have hlt7 : (l.take k).length = k := by rw [List.length_take]; omega
  have hsrc : ∃ a c, sv = .slice a l.length c ∧ l.length ≤ c ∧ c ≤ 9223372036854775807 ∧ (a = none → c = 0) ∧ (∀ W, Kp [] w W → EHas0 W (.slice a k c) (l.take k)) ∧ ∃ a', (∀ W (n' c' : Nat), n' = l.length - k → c' = c - k → Kp [] w W → EHas0 W (.slice a' n' c') (l.drop k)) ∧
      ((a = none ∧ a' = none) ∨ ∃ b o, a = some ⟨b, o, none⟩ ∧ ((k = c ∧ a' = some ⟨b, o, none⟩) ∨ (c ≠ k ∧ a' = some ⟨b, o + k * 5, none⟩))) := by
    rcases hv with ⟨rfl, rfl⟩ | ⟨b, o, c, rfl, hb, hr, hlc, hcm⟩
    · obtain rfl : k = 0 := by simpa using hk
      exact ⟨none, 0, rfl, by simp, by simp, fun _ => rfl, fun _ _ => .inl ⟨rfl, rfl⟩, none, fun _ n' c' h1 h2 _ => .inl ⟨by subst h1; subst h2; rfl, rfl⟩, .inl ⟨rfl, rfl⟩⟩
    · have h1 : EHas0 w (.slice (some ⟨b, o, none⟩) k c) (l.take k) := .inr ⟨b, o, c, by rw [hlt7], hb, fun j x hx => hr j x (by
        rw [List.getElem?_take] at hx
        split at hx
        · exact hx
        · cases hx), by omega, hcm⟩
      refine ⟨some ⟨b, o, none⟩, c, rfl, hlc, hcm, fun h => (by cases h), fun W hW => h1.kp hW, ?_⟩
      by_cases hck : c = k
      · have h2 : EHas0 w (.slice (some ⟨b, o, none⟩) (l.length - k) (c - k)) (l.drop k) := .inr ⟨b, o, c - k, by rw [List.length_drop], hb, fun j x hx => by
          have := (List.getElem?_eq_some_iff.1 hx).1
          rw [List.length_drop] at this
          omega, by rw [List.length_drop]; omega, by omega⟩
        exact ⟨_, fun W n' c' e1 e2 hW => by subst e1; subst e2; exact h2.kp hW, .inr ⟨b, o, rfl, .inl ⟨hck.symm, rfl⟩⟩⟩
      · have h2 : EHas0 w (.slice (some ⟨b, o + k * 5, none⟩) (l.length - k) (c - k)) (l.drop k) := .inr ⟨b, o + k * 5, c - k, by rw [List.length_drop], hb, fun j x hx => by
          rw [List.getElem?_drop] at hx
          have := hr (k + j) x hx
          rwa [show o + (k + j) * 5 = o + k * 5 + j * 5 by omega] at this, by rw [List.length_drop]; omega, by omega⟩
        exact ⟨_, fun W n' c' e1 e2 hW => by subst e1; subst e2; exact h2.kp hW, .inr ⟨b, o, rfl, .inr ⟨hck, rfl⟩⟩⟩
  obtain ⟨a, c, rfl, hlc, hcm, hac, hs1, a', hs2, haa⟩ := hsrc
  obtain ⟨A, hA⟩ : ∃ A, w.heap.size = A := ⟨_, rfl⟩
  obtain ⟨Z, hZ⟩ : ∃ Z, A + 1 = Z := ⟨_, rfl⟩
  obtain ⟨Wc, hWc⟩ : ∃ Wc, (w.alloc (.cells #[.int .i64 (cap : Int), .slice a l.length c, .bool lost] 33)).alloc (.cells #[.int .i64 0, .slice none 0 0, .bool false] 33) = Wc := ⟨_, rfl⟩
  have hKc : Kp [] w Wc := by rw [← hWc]; exact ((Kp.refl [] w).alloc _).alloc _
  have hWs : Wc.heap.size = Z + 1 := by rw [← hWc, al_size, al_size, ← hZ, ← hA]
  have hA3 : Wc.heap[A]? = some (.cells #[.int .i64 (cap : Int), .slice a l.length c, .bool lost] 33 (0, 0)) := by
    rw [← hWc, ← hA, al_old _ _ (by rw [al_size]; omega), al_new]
  have hZ3 : Wc.heap[Z]? = some (.cells #[.int .i64 0, .slice none 0 0, .bool false] 33 (0, 0)) := by
    rw [← hWc, ← hZ, ← hA]
    have := al_new (w.alloc (.cells #[.int .i64 (cap : Int), .slice a l.length c, .bool lost] 33)) (.cells #[.int .i64 0, .slice none 0 0, .bool false] 33)
    rwa [al_size] at this
  have hAl : A < Wc.heap.size := by omega
  have hZl : Z < Wc.heap.size := by omega
  have hZA : Z ≠ A := by omega
  have hAZ : A ≠ Z := by omega
  obtain ⟨q0, q1, q2⟩ := rs3 hA3
  have H1 := Lib.hid hs1
  have H2 := Lib.hid hs2
  have HKc := Lib.hid hKc
  have HWs := Lib.hid hWs
  have HA3 := Lib.hid hA3
  have HZ3 := Lib.hid hZ3
  have HA := Lib.hid hA
  have HZ := Lib.hid hZ
  have HLT := Lib.hid hlt7
  have hki : (k : Int) ≤ (l.length : Int) := by omega
  have HB1 := Lib.hid (show ([] : List Ev).length + (l.take k).length ≤ 1000000 by rw [hlt7, List.length_nil]; omega)
  have HB2 := Lib.hid (show ([] : List Ev).length + (l.drop k).length ≤ 1000000 by rw [List.length_drop, List.length_nil]; omega)
  have hkc : (k : Int) ≤ (c : Int) := by omega
  have hkn : k ≤ c := by omega
  have hk0 : (0 : Int) ≤ (k : Int) := by omega
  clear hv hs1 hs2 hKc hWs hA3 hZ3 hlt7 hac
  rcases haa with ⟨rfl, rfl⟩ | ⟨b, o, rfl, ⟨rfl, rfl⟩ | ⟨hck, rfl⟩⟩
  · go_enter Try.func12, Try.ntmps12
    go_wp2_with (first
      | (at_builtin; refine wpList_append_ev rfl (.const (.slice none 0 0)) (.tmp 17) rfl (Z + 1) (.slice none 0 0) [] rfl (EOwn.nil _ _) _ (l.take k) rfl (H1.out _ HKc.out) HB1.out (Nat.le_of_eq HWs.out.symm) ?_; intro v1 w1 hown1 hgr1; have hK1 := Kp.of_grown_none hgr1; have HK1 := Lib.hid hK1; obtain ⟨a0, a1, a2⟩ := rs3 ((hK1.block A hAl (by simp)).trans HA3.out); have HO1 := Lib.hid hown1; clear hown1 hgr1 hK1)
      | (at_builtin; refine wpList_append_ev rfl (.const (.slice none 0 0)) (.tmp 22) rfl (Z + 1) (.slice none 0 0) [] rfl (EOwn.nil _ _) _ (l.drop k) rfl (H2.out _ _ _ (by omega) (by omega) (HKc.out.trans HK1.out)) HB2.out (Nat.le_trans (Nat.le_of_eq HWs.out.symm) HK1.out.size) ?_; intro v2 w2 hown2 hgr2; have hK2 := Kp.of_grown_none hgr2; have HK2 := Lib.hid hK2; obtain ⟨b0, b1, b2⟩ := rs3 (((HK1.out.trans hK2).block A hAl (by simp)).trans HA3.out); obtain ⟨z0, z1, z2⟩ := rs3 (((HK1.out.trans hK2).block Z hZl (by simp)).trans HZ3.out); have fa := frz (((HK1.out.trans hK2).block A hAl (by simp)).trans HA3.out); have fz := frz (((HK1.out.trans hK2).block Z hZl (by simp)).trans HZ3.out); obtain ⟨ad2, cd2, rfl⟩ := hown2.form; have HO2 := Lib.hid hown2; clear hown2 hgr2 hK2))
    refine bodyPost_ret (v := .tuple #[.agg #[.int .i64 (cap : Int), .slice ad2 (l.length - k) cd2, .bool lost], v1]) (by simp [results, Try.results12, go_sem, z0, z1, z2]) rfl ?_
    have h2 := HO2.out
    have h1 := HO1.out
    have hAA := HA.out
    have hZZ := HZ.out
    rw [List.nil_append, List.length_drop] at h2
    rw [List.nil_append] at h1
    have h1' := h1.kp HK2.out (fun _ _ => by simp)
    refine ⟨_, _, rfl, (h2.kp recv_kp fun x hx => ?_).down (by omega), (h1'.kp recv_kp fun x hx => ?_).down (by omega), ((HKc.out.trans HK1.out).trans HK2.out).up recv_kp (by simp; omega)⟩
    · have := h2.ge x hx
      simp
      omega
    · have := h1.ge x hx
      simp
      omega
  · go_enter Try.func12, Try.ntmps12
    go_wp2_with (first
      | (at_builtin; refine wpList_append_ev rfl (.const (.slice none 0 0)) (.tmp 17) rfl (Z + 1) (.slice none 0 0) [] rfl (EOwn.nil _ _) _ (l.take k) rfl (H1.out _ HKc.out) HB1.out (Nat.le_of_eq HWs.out.symm) ?_; intro v1 w1 hown1 hgr1; have hK1 := Kp.of_grown_none hgr1; have HK1 := Lib.hid hK1; obtain ⟨a0, a1, a2⟩ := rs3 ((hK1.block A hAl (by simp)).trans HA3.out); have HO1 := Lib.hid hown1; clear hown1 hgr1 hK1)
      | (at_builtin; refine wpList_append_ev rfl (.const (.slice none 0 0)) (.tmp 22) rfl (Z + 1) (.slice none 0 0) [] rfl (EOwn.nil _ _) _ (l.drop k) rfl (H2.out _ _ _ (by omega) (by omega) (HKc.out.trans HK1.out)) HB2.out (Nat.le_trans (Nat.le_of_eq HWs.out.symm) HK1.out.size) ?_; intro v2 w2 hown2 hgr2; have hK2 := Kp.of_grown_none hgr2; have HK2 := Lib.hid hK2; obtain ⟨b0, b1, b2⟩ := rs3 (((HK1.out.trans hK2).block A hAl (by simp)).trans HA3.out); obtain ⟨z0, z1, z2⟩ := rs3 (((HK1.out.trans hK2).block Z hZl (by simp)).trans HZ3.out); have fa := frz (((HK1.out.trans hK2).block A hAl (by simp)).trans HA3.out); have fz := frz (((HK1.out.trans hK2).block Z hZl (by simp)).trans HZ3.out); obtain ⟨ad2, cd2, rfl⟩ := hown2.form; have HO2 := Lib.hid hown2; clear hown2 hgr2 hK2))
    refine bodyPost_ret (v := .tuple #[.agg #[.int .i64 (cap : Int), .slice ad2 0 cd2, .bool lost], v1]) (by simp [results, Try.results12, go_sem, z0, z1, z2]) rfl ?_
    have h2 := HO2.out
    have h1 := HO1.out
    have hAA := HA.out
    have hZZ := HZ.out
    rw [List.nil_append, List.length_drop] at h2
    rw [show l.length - k = 0 by omega] at h2
    rw [List.nil_append] at h1
    have h1' := h1.kp HK2.out (fun _ _ => by simp)
    refine ⟨_, _, rfl, (h2.kp recv_kp fun x hx => ?_).down (by omega), (h1'.kp recv_kp fun x hx => ?_).down (by omega), ((HKc.out.trans HK1.out).trans HK2.out).up recv_kp (by simp; omega)⟩
    · have := h2.ge x hx
      simp
      omega
    · have := h1.ge x hx
      simp
      omega
  · go_enter Try.func12, Try.ntmps12
    go_wp2_with (first
      | (at_builtin; refine wpList_append_ev rfl (.const (.slice none 0 0)) (.tmp 17) rfl (Z + 1) (.slice none 0 0) [] rfl (EOwn.nil _ _) _ (l.take k) rfl (H1.out _ HKc.out) HB1.out (Nat.le_of_eq HWs.out.symm) ?_; intro v1 w1 hown1 hgr1; have hK1 := Kp.of_grown_none hgr1; have HK1 := Lib.hid hK1; obtain ⟨a0, a1, a2⟩ := rs3 ((hK1.block A hAl (by simp)).trans HA3.out); have HO1 := Lib.hid hown1; clear hown1 hgr1 hK1)
      | (at_builtin; refine wpList_append_ev rfl (.const (.slice none 0 0)) (.tmp 22) rfl (Z + 1) (.slice none 0 0) [] rfl (EOwn.nil _ _) _ (l.drop k) rfl (H2.out _ _ _ (by omega) (by omega) (HKc.out.trans HK1.out)) HB2.out (Nat.le_trans (Nat.le_of_eq HWs.out.symm) HK1.out.size) ?_; intro v2 w2 hown2 hgr2; have hK2 := Kp.of_grown_none hgr2; have HK2 := Lib.hid hK2; obtain ⟨b0, b1, b2⟩ := rs3 (((HK1.out.trans hK2).block A hAl (by simp)).trans HA3.out); obtain ⟨z0, z1, z2⟩ := rs3 (((HK1.out.trans hK2).block Z hZl (by simp)).trans HZ3.out); have fa := frz (((HK1.out.trans hK2).block A hAl (by simp)).trans HA3.out); have fz := frz (((HK1.out.trans hK2).block Z hZl (by simp)).trans HZ3.out); obtain ⟨ad2, cd2, rfl⟩ := hown2.form; have HO2 := Lib.hid hown2; clear hown2 hgr2 hK2))
    refine bodyPost_ret (v := .tuple #[.agg #[.int .i64 (cap : Int), .slice ad2 (l.length - k) cd2, .bool lost], v1]) (by simp [results, Try.results12, go_sem, z0, z1, z2]) rfl ?_
    have h2 := HO2.out
    have h1 := HO1.out
    have hAA := HA.out
    have hZZ := HZ.out
    rw [List.nil_append, List.length_drop] at h2
    rw [List.nil_append] at h1
    have h1' := h1.kp HK2.out (fun _ _ => by simp)
    refine ⟨_, _, rfl, (h2.kp recv_kp fun x hx => ?_).down (by omega), (h1'.kp recv_kp fun x hx => ?_).down (by omega), ((HKc.out.trans HK1.out).trans HK2.out).up recv_kp (by simp; omega)⟩
    · have := h2.ge x hx
      simp
      omega
    · have := h1.ge x hx
      simp
      omega
end Go.Proofs.Ytikjbhjdpamceaa
