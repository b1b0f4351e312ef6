/- Pieces of templates and rows of them in memory; texts; the package-level variables that the walks need. -/
import Derived.Test.YtfpkppgecmbglaaGreatDoorA
import Derived.Test.YtfpkppgecmbglaaGreatDoorShelf
import Derived.Test.YtfpkppgecmbglaaGreatDoorNC
import Derived.Lib.OthersKept
import Derived.Lib.IndexBytes
import Derived.Lib.LaidTab
import Derived.Lib.AppendIntMem
import Derived.Lib.ConvBytes
import Derived.Laws.RangeAny
import Derived.Laws.IdiomStrings
import Derived.Laws.BytesArg
import Derived.Deep.DeepCutAuto
import Derived.Deep.CutBlock
namespace Go.Proofs.YtfpkppgecmbglaaGreatDoor
open Go.RowKit

/-- A text's bytes. -/
def bs (s : List UInt8) : ByteArray := ⟨s.toArray⟩
theorem bs_data (s : List UInt8) : (bs s).data.toList = s := rfl
theorem bs_of (s : ByteArray) : bs s.data.toList = s := by
  unfold bs
  rw [Array.toArray_toList]
theorem bs_size (s : List UInt8) : (bs s).size = s.length := rfl
theorem bs_isEmpty (r : List UInt8) : (bs r).toList.isEmpty = r.isEmpty := by rw [Lib.toList_data, bs_data]
theorem bs_drop (l : List UInt8) (k : Nat) : (bs l).extract k (bs l).size = bs (l.drop k) := by
  apply ByteArray.ext
  rw [ByteArray.data_extract, bs_size]
  apply Array.ext'
  simp [bs]
  rw [List.take_of_length_le (by simp)]
theorem bs_take (l : List UInt8) (k : Nat) : (bs l).extract 0 k = bs (l.take k) := by
  apply ByteArray.ext
  rw [ByteArray.data_extract]
  apply Array.ext'
  simp [bs]
theorem bs_mid (l : List UInt8) (i j : Nat) : (bs l).extract i j = bs ((l.take j).drop i) := by
  apply ByteArray.ext
  apply Array.ext'
  rw [ByteArray.data_extract, Array.toList_extract]
  simp [bs, List.extract, List.drop_take]
theorem bs_inj {a b : List UInt8} (h : bs a = bs b) : a = b := by
  have := congrArg (fun s : ByteArray => s.data.toList) h
  simpa [bs_data] using this
theorem bs_app (a b : List UInt8) : bs a ++ bs b = bs (a ++ b) := by
  apply ByteArray.ext
  rw [ByteArray.data_append]
  simp [bs]
theorem bs_get (l : List UInt8) (k : Nat) (h : k < l.length) : (bs l)[k]'h = l[k] := by
  show (bs l).data[k]'h = _
  simp [bs]

/-- A type of elements: how many cells, the types' numbers, an element's cells. -/
structure RT (α : Type) where
  sz : Nat
  ty : TypeId
  sl : TypeId
  bt : Nat
  z : Value
  cf : α → List Value
  pos : 0 < sz
  len : ∀ x, (cf x).length = sz
  one : ∀ x, ∀ v ∈ cf x, v.oneCell' = true
  und : Tryz.prog.underlying sl = some (.slice ty)
  info : (Tryz.prog.info? ty).map (fun i => (i.zero, i.size, i.bytes)) = some (some z, sz, bt)
  zs : z.cells.size = sz
  btl : bt ≤ 64
variable {α : Type} (r : RT α)

def RT.cells (l : List α) : List Value := l.flatMap r.cf
theorem RT.cells_cons (x : α) (l : List α) : r.cells (x :: l) = r.cf x ++ r.cells l := rfl
theorem RT.cells_len (l : List α) : (r.cells l).length = l.length * r.sz := by
  induction l with
  | nil => simp [RT.cells]
  | cons x l ih => rw [RT.cells_cons, List.length_append, ih, r.len, List.length_cons, Nat.add_mul, Nat.one_mul, Nat.add_comm]
theorem RT.cells_append (a b : List α) : r.cells (a ++ b) = r.cells a ++ r.cells b := List.flatMap_append
theorem RT.cells_one (l : List α) : ∀ v ∈ r.cells l, v.oneCell' = true := fun v hv => by
  obtain ⟨x, _, h⟩ := List.mem_flatMap.1 hv
  exact r.one x v h
theorem RT.cells_get : ∀ (l : List α) (j : Nat) (x : α) (m : Nat), l[j]? = some x → m < r.sz → (r.cells l)[j * r.sz + m]? = (r.cf x)[m]?
  | [], j, x, m, h, _ => by simp at h
  | y :: l, 0, x, m, h, hm => by
    simp only [List.getElem?_cons_zero, Option.some.injEq] at h
    subst h
    rw [RT.cells_cons, List.getElem?_append_left (by rw [r.len]; omega), Nat.zero_mul, Nat.zero_add]
  | y :: l, j + 1, x, m, h, hm => by
    have := RT.cells_get l j x m (by simpa using h) hm
    have e : (j + 1) * r.sz = j * r.sz + r.sz := by rw [Nat.add_mul, Nat.one_mul]
    rw [RT.cells_cons, List.getElem?_append_right (by rw [r.len]; omega), r.len, show (j + 1) * r.sz + m - r.sz = j * r.sz + m by omega]
    exact this

/-- The cells from (b, o) on hold these elements. -/
def RT.Row (w : World) (b o : Nat) (l : List α) : Prop := ∀ (j : Nat) (x : α), l[j]? = some x → w.rangeAt b (o + j * r.sz) (r.cf x)
/-- The slice v holds these elements. -/
def RT.Has (w : World) (v : Value) (l : List α) : Prop := (∃ a c, v = .slice a 0 c ∧ l = []) ∨ ∃ b o c, v = .slice (some ⟨b, o, none⟩) l.length c ∧ b < w.heap.size ∧ r.Row w b o l
variable {r}
theorem RT.row_of {w : World} {b : Nat} {l : List α} {cur : List Value} (h : w.heap[b]? = some (.cells cur.toArray r.ty (0, 0))) (hc : cur.take (l.length * r.sz) = r.cells l) : r.Row w b 0 l := fun j x hx m v hv => by
  have hj := (List.getElem?_eq_some_iff.1 hx).1
  have hm : m < r.sz := by have := (List.getElem?_eq_some_iff.1 hv).1; rwa [r.len] at this
  have hlt : j * r.sz + m < l.length * r.sz := by
    have : (j + 1) * r.sz ≤ l.length * r.sz := Nat.mul_le_mul_right _ hj
    rw [Nat.add_mul, Nat.one_mul] at this
    omega
  rw [cell_of_row _ _ _ _ _ _ h, List.getElem?_toArray, Nat.zero_add]
  have := r.cells_get l j x m hx hm
  rw [← hc, List.getElem?_take, if_pos hlt] at this
  rw [this, hv]
theorem RT.Row.keep {w w' : World} {b o : Nat} {l : List α} (h : r.Row w b o l) (hb : w'.heap[b]? = w.heap[b]?) : r.Row w' b o l := fun j x hx m v hv => by
  have := h j x hx m v hv
  simp only [World.cell?, hb] at this ⊢
  exact this
theorem RT.Has.form {w : World} {v : Value} {l : List α} (h : r.Has w v l) : ∃ a c, v = .slice a l.length c ∧ (l ≠ [] → ∃ b o, a = some ⟨b, o, none⟩ ∧ b < w.heap.size ∧ r.Row w b o l) := by
  rcases h with ⟨a, c, rfl, rfl⟩ | ⟨b, o, c, rfl, hb, hr⟩
  · exact ⟨a, c, rfl, fun h => absurd rfl h⟩
  · exact ⟨some ⟨b, o, none⟩, c, rfl, fun _ => ⟨b, o, rfl, hb, hr⟩⟩
theorem RT.Has.kp {w w' : World} {s : List Nat} {v : Value} {l : List α} (h : r.Has w v l) (hk : Kp s w w') (hs : ∀ b, v.ownBlock = some b → b ∉ s) : r.Has w' v l := by
  rcases h with h | ⟨b, o, c, rfl, hb, hr⟩
  · exact .inl h
  · exact .inr ⟨b, o, c, rfl, Nat.lt_of_lt_of_le hb hk.size, hr.keep (hk.block b hb (hs b rfl))⟩
theorem RT.Has.kp0 {w w' : World} {v : Value} {l : List α} (h : r.Has w v l) (hk : Kp [] w w') : r.Has w' v l := h.kp hk fun _ _ => by simp
variable (r)
/-- A row of the call's own. -/
def RT.Own (w : World) (B : Nat) (v : Value) (l : List α) : Prop := w.ownsRow B r.ty r.sz v l.length (r.cells l)
theorem RT.Own.nil (w : World) (B : Nat) : r.Own w B (.slice none 0 0) [] := World.ownsRow_nil _ _ _ _
variable {r}
theorem RT.Own.has {w : World} {B : Nat} {v : Value} {l : List α} (h : r.Own w B v l) : r.Has w v l := by
  rcases h.2 with ⟨hv, hn⟩ | ⟨g, cap, cur, hv, hB, hh, hc, hcm, hcz, ht⟩
  · exact .inl ⟨none, 0, hv, List.length_eq_zero_iff.1 hn⟩
  · exact .inr ⟨g, 0, cap, hv, block_lt hh, RT.row_of (cur := cur.toList) (by rw [Array.toArray_toList]; exact hh) ht⟩
theorem RT.Own.form {w : World} {B : Nat} {v : Value} {l : List α} (h : r.Own w B v l) : ∃ a c, v = .slice a l.length c := by
  rcases h.2 with ⟨hv, hn⟩ | ⟨g, cap, cur, hv, _⟩
  · exact ⟨none, 0, by rw [hv, hn]⟩
  · exact ⟨_, _, hv⟩
theorem RT.Own.keep {w w' : World} {B : Nat} {v : Value} {l : List α} (h : r.Own w B v l) (hk : ∀ b, b < w.heap.size → v.ownBlock = some b → w'.heap[b]? = w.heap[b]?) : r.Own w' B v l := by
  refine ⟨h.1, ?_⟩
  rcases h.2 with hn | ⟨g, cap, cur, hv, hB, hh, rest⟩
  · exact .inl hn
  · exact .inr ⟨g, cap, cur, hv, hB, (hk g (block_lt hh) (by rw [hv]; rfl)).trans hh, rest⟩
theorem RT.Own.kp {w w' : World} {B : Nat} {s : List Nat} {v : Value} {l : List α} (h : r.Own w B v l) (hk : Kp s w w') (hs : ∀ b, v.ownBlock = some b → b ∉ s) : r.Own w' B v l := h.keep fun b hb hv => hk.block b hb (hs b hv)
theorem RT.Own.kp0 {w w' : World} {B : Nat} {v : Value} {l : List α} (h : r.Own w B v l) (hk : Kp [] w w') : r.Own w' B v l := h.kp hk fun _ _ => by simp
theorem RT.Own.ge {w : World} {B : Nat} {v : Value} {l : List α} (h : r.Own w B v l) : ∀ b, v.ownBlock = some b → B ≤ b ∧ b < w.heap.size := fun b hb => by
  rcases h.2 with ⟨hv, _⟩ | ⟨g, cap, cur, hv, hB, hh, _⟩
  · rw [hv] at hb
    cases hb
  · rw [hv] at hb
    have : g = b := by simpa [Value.ownBlock] using hb
    exact ⟨by omega, by rw [← this]; exact block_lt hh⟩
theorem RT.Own.down {w : World} {B B' : Nat} {v : Value} {l : List α} (h : r.Own w B v l) (hB : B' ≤ B) : r.Own w B' v l := by
  refine ⟨h.1, ?_⟩
  rcases h.2 with hn | ⟨g, cap', cur, hv, hg, rest⟩
  · exact .inl hn
  · exact .inr ⟨g, cap', cur, hv, by omega, rest⟩
/-- An own row stays while a cell of another block is written. -/
theorem RT.Own.set {w : World} {B : Nat} {v : Value} {l : List α} (h : r.Own w B v l) {p : Addr} (hp : ∀ b, v.ownBlock = some b → b ≠ p.block) (u : Value) : r.Own (w.setCell p u) B v l :=
  h.keep fun b _ hv => Below.heap_setCell _ _ _ _ (hp b hv)
theorem add_addr (b o j : Nat) : (⟨b, o, none⟩ : Addr).add j = ⟨b, o + j, none⟩ := by unfold Addr.add; split <;> simp_all

/-- One more element behind an own row: the element lies in the block that was made last. -/
theorem run_append_r {w : World} {base b c : Nat} {v : Value} {xs : List α} (x : α) (ty : TypeId) (hown : r.Own w base v xs) (hcell : w.rangeAt b 0 (r.cf x)) (hb1 : xs.length ≤ 1000000) (hb : base ≤ w.heap.size) :
    ∃ v' w', (Builtin.append_ #[r.sl, r.sl] ty #[v, .slice (some ⟨b, 0, none⟩) 1 c]).run Tryz.prog w = .ok v' w' ∧ r.Own w' base v' (xs ++ [x]) ∧ w.grownBy w' v.ownBlock := by
  obtain ⟨i0, hi0, hz0, hz1, hz2⟩ := info_parts r.info
  obtain ⟨v', w', h1, h2, h3, _⟩ := run_append_own (P := Tryz.prog) w base r.sl ty r.ty i0 _ r.sz r.bt r.und hi0 hz0 hz1 hz2 r.zs r.pos v xs.length (r.cells xs) hown ⟨b, 0, none⟩ 1 c (r.cells [x])
    (r.cells_len [x]) (fun j u hj => by
      rw [add_addr]
      have e : r.cells [x] = r.cf x := by simp [RT.cells]
      rw [e] at hj
      exact hcell j u hj) (r.cells_one [x]) (by unfold maxLen; omega) (by
      have := r.btl
      have : (xs.length + 1) * r.bt ≤ 1000001 * 64 := Nat.mul_le_mul (by omega) this
      omega) hb
  refine ⟨v', w', h1, ?_, h3⟩
  unfold RT.Own
  rw [List.length_append, RT.cells_append]
  exact h2
theorem wpList_append_r {ops : Array Oper} {rest : List Oper} {o : Oper} {a : Act} {w : World} {Q : Exit → Act → World → Prop} (hg : o.guard = none) (s y : Operand)
    (hop : o.op = Op.call { callee := Callee.builtin Builtin.append, args := #[s, y], argTypes := #[r.sl, r.sl] }) (base : Nat)
    (v : Value) (xs : List α) (hs : a.eval s = v) (hown : r.Own w base v xs) (b c : Nat) (x : α) (hx : a.eval y = .slice (some ⟨b, 0, none⟩) 1 c) (hcell : w.rangeAt b 0 (r.cf x)) (hb1 : xs.length ≤ 1000000) (hb : base ≤ w.heap.size)
    (hK : ∀ v' w', r.Own w' base v' (xs ++ [x]) → w.grownBy w' v.ownBlock → wpList Tryz.prog ops Q rest (a.put o.dst v') w') : wpList Tryz.prog ops Q (o :: rest) a w := by
  refine wpList_plain hg fun K hK' => ?_
  obtain ⟨v', w', h1, h2, h3⟩ := run_append_r (c := c) x o.type hown hcell hb1 hb
  unfold Oper.wp
  simp [execOp, hop, resolve, invoke, builtin, hs, hx, h1, Result.andThen]
  exact hK' _ _ (hK v' w' h2 h3)


theorem RT.Own.form2 {α : Type} {r : RT α} {w : World} {B : Nat} {v : Value} {l : List α} (h : r.Own w B v l) : (v = .slice none 0 0 ∧ l = []) ∨ ∃ g cap, v = .slice (some ⟨g, 0, none⟩) l.length cap ∧ B ≤ g ∧ g < w.heap.size ∧ l.length ≤ cap ∧ w.frozen? ⟨g, 0, none⟩ = false ∧ r.Row w g 0 l := by
  rcases h.2 with ⟨hv, hn⟩ | ⟨g, cap, cur, hv, hB, hh, hc, hcm, hcz, ht⟩
  · exact .inl ⟨hv, List.length_eq_zero_iff.1 hn⟩
  · exact .inr ⟨g, cap, hv, hB, block_lt hh, hc, by simp [World.frozen?, hh], RT.row_of (cur := cur.toList) (by rw [Array.toArray_toList]; exact hh) ht⟩

/-- A piece as it may come: any numbers. -/
structure Gp where
  kind : Int
  text : List UInt8
  word : Int
  more : Bool
def Pc.g (p : Pc) : Gp := ⟨(p.kind : Int), p.text, (p.word : Int), p.more⟩
def gpC (x : Gp) : Array Value := #[.int .i64 x.kind, .string (bs x.text), .int .i64 x.word, .bool x.more]
def PAt (w : World) (b : Nat) (x : Gp) : Prop := w.heap[b]? = some (.cells (gpC x) 61 (0, 0))
theorem PAt.cells {w : World} {b : Nat} {x : Gp} (h : PAt w b x) : w.cell? ⟨b, 0, none⟩ = some (.int .i64 x.kind) ∧ w.cell? ⟨b, 1, none⟩ = some (.string (bs x.text)) ∧ w.cell? ⟨b, 2, none⟩ = some (.int .i64 x.word) ∧ w.cell? ⟨b, 3, none⟩ = some (.bool x.more) := by
  refine ⟨?_, ?_, ?_, ?_⟩ <;> (rw [cell_of_row _ _ _ _ _ _ h]; rfl)
theorem PAt.kp {w w' : World} {b : Nat} {x : Gp} {s : List Nat} (h : PAt w b x) (hk : Kp s w w') (hs : b ∉ s) : PAt w' b x := (hk.block b (block_lt h) hs).trans h
noncomputable def gpT : RT Gp where
  sz := 4
  ty := 61
  sl := 29
  bt := 40
  z := .agg #[.int .i64 0, .string ⟨#[]⟩, .int .i64 0, .bool false]
  cf := fun x => (gpC x).toList
  pos := by decide
  len := fun _ => rfl
  one := fun x v hv => by
    simp only [gpC, List.mem_cons, List.not_mem_nil, or_false] at hv
    rcases hv with rfl | rfl | rfl | rfl <;> rfl
  und := Tryz.underlying29
  info := by kernel_rfl
  zs := rfl
  btl := by decide
theorem gpRow {w : World} {b o : Nat} {l : List Gp} (h : gpT.Row w b o l) {j : Nat} {x : Gp} (hx : l[j]? = some x) :
    w.cell? ⟨b, o + j * 4, none⟩ = some (.int .i64 x.kind) ∧ w.cell? ⟨b, o + j * 4 + 1, none⟩ = some (.string (bs x.text)) ∧ w.cell? ⟨b, o + j * 4 + 2, none⟩ = some (.int .i64 x.word) ∧ w.cell? ⟨b, o + j * 4 + 3, none⟩ = some (.bool x.more) :=
  ⟨h j x hx 0 _ rfl, h j x hx 1 _ rfl, h j x hx 2 _ rfl, h j x hx 3 _ rfl⟩
theorem PAt.range {w : World} {b : Nat} {x : Gp} (h : PAt w b x) : w.rangeAt b 0 (gpT.cf x) := fun m v hv => by
  rw [cell_of_row _ _ _ _ _ _ h, Nat.zero_add]
  simpa [gpT] using hv
/-- An attribute: its name and its value. -/
abbrev Atb := List UInt8 × List UInt8
noncomputable def atT : RT Atb where
  sz := 2
  ty := 56
  sl := 41
  bt := 32
  z := .agg #[.string ⟨#[]⟩, .string ⟨#[]⟩]
  cf := fun x => [.string (bs x.1), .string (bs x.2)]
  pos := by decide
  len := fun _ => rfl
  one := fun x v hv => by
    simp only [List.mem_cons, List.not_mem_nil, or_false] at hv
    rcases hv with rfl | rfl <;> rfl
  und := Tryz.underlying41
  info := by kernel_rfl
  zs := rfl
  btl := by decide
theorem atRow {w : World} {b o : Nat} {l : List Atb} (h : atT.Row w b o l) {j : Nat} {x : Atb} (hx : l[j]? = some x) :
    w.cell? ⟨b, o + j * 2, none⟩ = some (.string (bs x.1)) ∧ w.cell? ⟨b, o + j * 2 + 1, none⟩ = some (.string (bs x.2)) :=
  ⟨h j x hx 0 _ rfl, h j x hx 1 _ rfl⟩
noncomputable def stT : RT (List UInt8) where
  sz := 1
  ty := 9
  sl := 28
  bt := 16
  z := .string ⟨#[]⟩
  cf := fun x => [.string (bs x)]
  pos := by decide
  len := fun _ => rfl
  one := fun x v hv => by rw [List.mem_singleton.1 hv]; rfl
  und := Tryz.underlying28
  info := by kernel_rfl
  zs := rfl
  btl := by decide
noncomputable def byT : RT UInt8 where
  sz := 1
  ty := 5
  sl := 70
  bt := 1
  z := .int .u8 0
  cf := fun b => [.int .u8 (b.toNat : Int)]
  pos := by decide
  len := fun _ => rfl
  one := fun x v hv => by rw [List.mem_singleton.1 hv]; rfl
  und := Tryz.underlying70
  info := by kernel_rfl
  zs := rfl
  btl := by decide
theorem by_conv {w : World} {B : Nat} {v : Value} {l : List UInt8} (h : byT.Own w B v l) : (convert 70 9 v).run Tryz.prog w = .ok (.string (bs l)) w := by
  rcases h.form2 with ⟨rfl, rfl⟩ | ⟨g, cap, rfl, _, _, _, _, hr⟩
  · exact run_convert_bytes_nil w 70 5 Tryz.underlying70 Tryz.underlying5 0 0 9 Tryz.underlying9
  · exact run_convert_bytes_back w 70 9 5 ⟨g, 0, none⟩ cap l Tryz.underlying70 Tryz.underlying5 Tryz.underlying9 (fun j hj => by
      have := hr j l[j] (List.getElem?_eq_getElem hj) 0 _ rfl
      rw [add_addr, Nat.zero_add]
      rw [show byT.sz = 1 from rfl] at this
      simpa using this)

/-- What the walks need of the package-level variables: the table of powers, the two errors, the length of fast searches. -/
structure Env (w : World) : Prop where
  tab : Lib.TabIs Tryz.prog w "internal/strconv.uint64pow10" .u64 Lib.pow10Tab
  e4 : ∃ te pe, w.cell? ⟨4, 0, none⟩ = some (.iface te pe)
  e5 : ∃ te pe, w.cell? ⟨5, 0, none⟩ = some (.iface te pe)
  max : ∃ m : Int, w.cell? ⟨0, 0, none⟩ = some (.int .i64 m)
  size : 8 ≤ w.heap.size
theorem Env.keep {w w' : World} (h : Env w) (hb : ∀ b, b < 8 → w'.heap[b]? = w.heap[b]?) (hs : w.heap.size ≤ w'.heap.size) : Env w' := by
  have hg : Tryz.prog.globalNamed "internal/strconv.uint64pow10" = some 3 := by kernel_rfl
  obtain ⟨ht, ⟨a, b, ha⟩, ⟨c, d, hc⟩, ⟨m, hm⟩, hz⟩ := h
  refine ⟨?_, ⟨a, b, ?_⟩, ⟨c, d, ?_⟩, ⟨m, ?_⟩, by omega⟩
  · unfold Lib.TabIs World.var? at ht ⊢
    rw [hg] at ht ⊢
    simp only [Option.bind_some, hb 3 (by omega)] at ht ⊢
    exact ht
  · simp only [World.cell?, hb 4 (by omega)] at ha ⊢
    exact ha
  · simp only [World.cell?, hb 5 (by omega)] at hc ⊢
    exact hc
  · simp only [World.cell?, hb 0 (by omega)] at hm ⊢
    exact hm
theorem Env.kp {w w' : World} {S : List Nat} (h : Env w) (hk : Kp S w w') (hS : ∀ x ∈ S, 8 ≤ x) : Env w' := by
  have hz := h.size
  exact h.keep (fun b hb => hk.block b (by omega) fun hm => by have := hS b hm; omega) hk.size
theorem Env.kp0 {w w' : World} (h : Env w) (hk : Kp [] w w') : Env w' := h.kp hk (by simp)
theorem itoa_any {w : World} (h : Env w) (n : Int) (h0 : -9223372036854775808 ≤ n) (h1 : n ≤ 9223372036854775807) : Calls Tryz.prog 71 #[.int .i64 n] w fun e w' => e = .returned (.string (bs (Lib.itoa n))) ∧ Kp [] w w' :=
  (Tryz.strconv_Itoa n h0 h1 w h.tab).mono fun _ _ ⟨he, k, os, hw⟩ => ⟨he, hw ▸ Kp.of_below (Lib.below_grow _ w (Nat.le_refl _) k os)⟩
/-- Atoi: the value; nil exactly if the text spells an int. -/
theorem atoi_ok {w : World} (s : List UInt8) (hs : s.length ≤ 1000000) (v : Int) (h : Lib.atoiAll s = .ok v) : Calls Tryz.prog 129 #[.string (bs s)] w fun e w' => e = .returned (.tuple #[.int .i64 v, .nilIface]) ∧ Kp [] w w' :=
  (Tryz.strconv_Atoi_ok (bs s) (by rw [bs_size]; omega) v h w).mono fun e w' ⟨he, hw⟩ => ⟨he, by
    rcases hw with rfl | ⟨t, rfl⟩
    · exact Kp.refl _ _
    · exact Kp.of_below (Lib.bytesWorld_below _ _ _)⟩
theorem atoi_bad {w : World} (hE : Env w) (s : List UInt8) (hs : s.length ≤ 1000000) (h : ∀ v, Lib.atoiAll s ≠ .ok v) : Calls Tryz.prog 129 #[.string (bs s)] w fun e w' => ∃ v N, e = .returned (.tuple #[.int .i64 v, .iface 160 (.pointer (some ⟨N, 0, none⟩))]) ∧ Kp [] w w' := by
  have hl : (bs s).size ≤ 281474976710656 := by rw [bs_size]; omega
  cases hv : Lib.atoiAll s with
  | ok v => exact absurd hv (h v)
  | «syntax» =>
    obtain ⟨te, pe, he⟩ := hE.e4
    exact (Tryz.strconv_Atoi_syntax (bs s) hl hv _ w he (.inr ⟨te, pe, rfl⟩)).mono fun _ _ ⟨N, h1, _, _, h2⟩ => ⟨_, N, h1, Kp.of_below h2⟩
  | range =>
    obtain ⟨te, pe, he⟩ := hE.e5
    exact (Tryz.strconv_Atoi_range (bs s) hl hv _ w he (.inr ⟨te, pe, rfl⟩)).mono fun _ _ ⟨N, h1, _, _, h2⟩ => ⟨_, N, h1, Kp.of_below h2⟩
end Go.Proofs.YtfpkppgecmbglaaGreatDoor
