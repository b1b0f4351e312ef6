/- Frame -/
import Derived.Test.YtkkibibecgcbmaaGreatDoorCards
import Derived.Test.YtkkibibecgcbmaaGreatDoorTie
import Derived.Test.YtkkibibecgcbmaaGreatDoorQB
import Derived.Test.YtkkibibecgcbmaaGreatDoorQShelf
import Derived.WalkKit
import Derived.ProofKit
import Derived.OpenShut
import Derived.Deep.DeepHandedRow
import Derived.Lib.LaidTab
import Derived.Deep.DeepLaidRun
import Derived.Stop.LaidErr
namespace Go.Proofs.YtkkibibecgcbmaaGreatDoor
open Go.ChangeShapes Go.WideShapes Go.ChangeAt Go.RowKit
theorem ownT : ownKnob Tryz.prog.godebug = none := by kernel_rfl
section
variable {H : Type} {enc : TypeId × Value → H} {P : Program}
theorem post_of_below {f : Func} {s : ChangeSpec} {apart fresh handsOn again : Bool} {W W' : World} {args : Array Value} {v : Value} {ds gs : List (DataW H)} {before pa pv : List MemPlace}
  (hW : DataW.Whole enc P f.params.toList s.vars apart W args.toList ds gs before)
  (hres : ∀ (b : Nat) (sp : Nat → Bool) (hd : Bool), DataW.TrodAll enc P W' b sp hd f.resultTypes.toList (v.resultList f.resultTypes.size) (s.fn H (ds ++ gs)).results [])
  (hargs : ∀ sp : Nat → Bool, (∀ p ∈ before, sp p.block = true) → DataW.TrodAll enc P W' 0 sp true f.params.toList args.toList (s.fn H (ds ++ gs)).args pa)
  (hvars : ∀ sp : Nat → Bool, (∀ p ∈ before, sp p.block = true) → DataW.TrodVars enc P W' sp s.vars (s.fn H (ds ++ gs)).vars pv)
  (hps : before = pa ++ pv) (hb : Below W.heap.size W W')
  (hok : ∀ (j : Nat) (t : TypeId) (r : Value), f.resultTypes[j]? = some t → (v.resultList f.resultTypes.size)[j]? = some r → Value.okWide P W' .any 0 t r) :
  s.post enc P f apart fresh handsOn again W args v W' := by
 have hlt : ∀ p ∈ before, p.block < W.heap.size := fun p hp => hW.lt p hp
 have hold : ∀ p ∈ before, (fun b => decide (b < W.heap.size)) p.block = true := fun p hp => by simpa using hlt p hp
 refine ⟨ds, gs, before, [], pa, pv, hW, hres _ _ _, hargs _ hold, hvars _ hold, World.keptBut_mono (fun p hp => ⟨hp, ?_⟩) (hb.frame (· ∈ before)), fun _ => ?_⟩
 ·rw [hps, List.mem_append] at hp
  exact Or.inr hp
 ·obtain ⟨_, _, _, _, _, hz, hn⟩ := hW
  refine ⟨hok, _, _, ([] ++ pa) ++ pv, ⟨[] ++ pa, pv, trodAll_append (hargs _ (fun _ _ => rfl)) (hres _ _ _), hvars _ (fun _ _ => rfl), rfl, ?_, ?_⟩, ?_⟩
  ·intro b off hp
   have hin : MemPlace.cell b off ∈ before := by rw [hps]; simpa using hp
   rw [hb.frozen (hlt _ hin)]
   exact hz b off hin
  ·intro ha
   have := hn ha
   rw [hps] at this
   simpa using this
  ·intro p hp _
   rw [hps]
   simpa using hp
end
def withCells (cs : Array Value) : Obj → Obj
 | .cells _ t frozen => .cells cs t frozen
 | o => o
def tabCells : DataW Unit → Array Value
 | .agg ps => (ps.map fun | .lit (.int k z) => Value.int k z | _ => .int .i64 0).toArray
 | _ => #[]
abbrev textR : ByteArray := ⟨#[118, 97, 108, 117, 101, 32, 111, 117, 116, 32, 111, 102, 32, 114, 97, 110, 103, 101]⟩
abbrev textY : ByteArray := ⟨#[105, 110, 118, 97, 108, 105, 100, 32, 115, 121, 110, 116, 97, 120]⟩
noncomputable def low : Nat := (World.holding Tryz.prog default ⟨#[], #[], []⟩).heap.size
def firstCells : Array Value := (Go.Pinned.utf8FirstZ.map fun n : Nat => Value.int .u8 (Int.ofNat n)).toArray
def rangeCells : Array Value := #[.int .u8 128, .int .u8 191, .int .u8 160, .int .u8 191, .int .u8 128, .int .u8 159, .int .u8 144, .int .u8 191, .int .u8 128, .int .u8 143, .int .u8 0, .int .u8 0, .int .u8 0, .int .u8 0, .int .u8 0, .int .u8 0,
 .int .u8 0, .int .u8 0, .int .u8 0, .int .u8 0, .int .u8 0, .int .u8 0, .int .u8 0, .int .u8 0, .int .u8 0, .int .u8 0, .int .u8 0, .int .u8 0, .int .u8 0, .int .u8 0, .int .u8 0, .int .u8 0]
def whiteCells : Array Value := (([9, 13, 1, 32, 133, 101, 160, 5760, 5600, 8192, 8202, 1, 8232, 8233, 1, 8239, 8287, 48, 12288, 12288, 1] : List Int).map fun n => Value.int .u16 n).toArray
noncomputable def laidWorld (os : Os) : World :=
 let w0 := World.holding Tryz.prog os ⟨#[.cells #[.string textR] 272, .cells #[.string textY] 272, .cells #[.slice (some ⟨low + 3, 0, none⟩) 7 7, .slice none 0 0, .int .i64 2] 221, .cells whiteCells 224], #[], []⟩
 { w0 with heap := ((((((((w0.heap.modify 6 (withCells (tabCells Rows.laid_math_bits_deBruijn32tab))).modify 7 (withCells (tabCells Rows.laid_math_bits_deBruijn64tab))).modify 5 (withCells (tabCells Rows.laid_internal_strconv_uint64pow10))).modify 4 (withCells rangeCells)).modify 9 (withCells #[.iface 270 (.pointer (some ⟨low, 0, none⟩))])).modify 8 (withCells #[.iface 270 (.pointer (some ⟨low + 1, 0, none⟩))])).modify 1 (withCells #[.pointer (some ⟨low + 2, 0, none⟩)])).modify 0 (withCells (tabCells Rows.laid_strings_asciiSpace))).modify 3 (withCells firstCells) }
abbrev laidList : List (String × DataW Unit) := [("math/bits.deBruijn32tab", Rows.laid_math_bits_deBruijn32tab), ("math/bits.deBruijn64tab", Rows.laid_math_bits_deBruijn64tab), ("internal/strconv.uint64pow10", Rows.laid_internal_strconv_uint64pow10), ("unicode/utf8.acceptRanges", Rows.laid_unicode_utf8_acceptRanges), ("strconv.ErrRange", Rows.laid_strconv_ErrRange), ("strconv.ErrSyntax", Rows.laid_strconv_ErrSyntax), ("unicode.White_Space", Rows.laid_unicode_White_Space), ("strings.asciiSpace", Rows.laid_strings_asciiSpace), ("unicode/utf8.first", Rows.laid_unicode_utf8_first)]
theorem laid_met (os : Os) (args : Array Value) : laidMet Tryz.prog laidList ((laidWorld os).forCall (fun _ _ => 0) ⟨#[], args, []⟩).memory :=
 laidMet_of_run3 12 (by kernel_rfl) (by kernel_rfl) (by kernel_rfl)
theorem laid_sp : (Rows.laid_strings_asciiSpace : DataW Unit) = Lib.tabData .u8 Lib.asciiSpaceTab := by
 kernel_rfl
theorem laid_pow : (Rows.laid_internal_strconv_uint64pow10 : DataW Unit) = Lib.tabData .u64 Lib.pow10Tab := by
 have e : Lib.pow10Tab = [1, 10, 100, 1000, 10000, 100000, 1000000, 10000000, 100000000, 1000000000, 10000000000, 100000000000, 1000000000000, 10000000000000, 100000000000000, 1000000000000000, 10000000000000000, 100000000000000000, 1000000000000000000, 10000000000000000000] := by decide +kernel
 rw [e]
 rfl
theorem ptrName : "*" ++ "errors.errorString" = "*errors.errorString" := by decide
theorem row270 (u : TypeId) (h : Tryz.prog.typeName? 3 u = some "*errors.errorString") : u = 270 :=
 typeName_ptr_named (nm := "errors.errorString") (by rw [ptrName]; kernel_rfl) (by kernel_rfl) (by decide) u (by rw [ptrName]; exact h)
theorem cells272 : Tryz.prog.cellsOf 272 = 1 := by kernel_rfl
theorem cells9 : Tryz.prog.cellsOf 9 = 1 := by kernel_rfl
theorem cells3 : Tryz.prog.cellsOf 3 = 1 := by kernel_rfl
theorem laidOut : laidOutB Tryz.prog = true := by kernel_rfl
theorem maxLen_of {W : World} (h : W.ShapedOpen Tryz.prog) : ∃ m : Int, W.cell? ⟨2, 0, none⟩ = some (.int .i64 m) := Tryz.laysM146.s1_3 W h
theorem env_of {W : World} (hsh : W.ShapedOpen Tryz.prog) (h : laidMet Tryz.prog laidList W) : Env W := by
 have h2 := h.tail.tail
 have hg5 : Tryz.prog.globalNamed "internal/strconv.uint64pow10" = some 5 := by kernel_rfl
 have hg9 : Tryz.prog.globalNamed "strconv.ErrRange" = some 9 := by kernel_rfl
 have hg8 : Tryz.prog.globalNamed "strconv.ErrSyntax" = some 8 := by kernel_rfl
 have hg0 : Tryz.prog.globalNamed "strings.asciiSpace" = some 0 := by kernel_rfl
 have h3 := h2.tail.tail
 obtain ⟨a0, s0, v0, _, _, _⟩ := laid_sentinel h3 hg9 (by kernel_rfl) Tryz.underlying120 row270 Tryz.underlying270 Tryz.underlying272 rfl rfl Tryz.underlying9 cells272 cells9
 obtain ⟨a1, s1, v1, _, _, _⟩ := laid_sentinel h3.tail hg8 (by kernel_rfl) Tryz.underlying120 row270 Tryz.underlying270 Tryz.underlying272 rfl rfl Tryz.underlying9 cells272 cells9
 have h4 := h3.tail.tail.tail
 have hs : 11 ≤ W.heap.size := by
  obtain ⟨cs, hh, _, _⟩ := hsh.1 10 #[.pointer none] 201 (of_decide_eq_true (by kernel_rfl)) (by kernel_rfl)
  exact block_lt hh
 rw [laid_pow] at h2
 rw [laid_sp] at h4
 refine ⟨Lib.tabIs_of_head (g := 5) (t := 210) (e := 187) (n := 20) hg5 (by kernel_rfl) Tryz.underlying210 Tryz.underlying187 (by kernel_rfl) (by kernel_rfl) h2, ⟨270, .pointer (some a1), ?_⟩, ⟨270, .pointer (some a0), ?_⟩, maxLen_of hsh, Lib.tabIs_of_head (g := 0) (t := 166) (e := 5) (n := 256) hg0 (by kernel_rfl) Tryz.underlying166 Tryz.underlying5 (by kernel_rfl) (by kernel_rfl) h4, hs⟩
 ·simpa using World.var?_cell hg8 v1 0
 ·simpa using World.var?_cell hg9 v0 0
theorem plain_addr {w : World} {a : Addr} {v : Value} (h : w.cell? (a.add 0) = some v) : ∃ b o, a = ⟨b, o, none⟩ ∧ b < w.heap.size := by
 have e : a.add 0 = a := rfl
 rw [e] at h
 obtain ⟨b, o, sp⟩ := a
 refine ⟨b, o, ?_, World.block_lt_of_cell? _ _ h⟩
 cases sp with
 | none => rfl
 | some x =>
  simp only [World.cell?] at h
  split at h <;> simp at h
theorem add_plain {b o j : Nat} : (⟨b, o, none⟩ : Addr).add j = ⟨b, o + j, none⟩ := by unfold Addr.add; split <;> simp_all
end Go.Proofs.YtkkibibecgcbmaaGreatDoor
