/- LxZ -/
import Derived.Test.YtkkibibecgcbmaaGreatDoorQE
import Derived.Test.YtkkibibecgcbmaaGreatDoorQLxP
import Derived.Test.YtkkibibecgcbmaaGreatDoorQLxV
import Derived.Laws.IdiomStrings
import Derived.Laws.BytesArg
import Derived.Deep.DeepCutAuto
import Derived.Deep.CutBlock
set_option maxHeartbeats 16000000
namespace Go.Proofs.YtkkibibecgcbmaaGreatDoor.Lx
open Go.RowKit
noncomputable def byT : RT UInt8 where
 sz := 1
 ty := 5
 sl := 67
 bt := 1
 z := .int .u8 0
 cf := fun b => [.int .u8 (b.toNat : Int)]
 pos := by decide
 len := fun _ => rfl
 one := fun x v hv => by rw [List.mem_singleton.1 hv]; rfl
 und := Tryz.underlying67
 info := by kernel_rfl
 zs := rfl
 btl := by decide
theorem by_conv {w : World} {B : Nat} {v : Value} {l : List UInt8} (h : byT.Own w B v l) : (convert 67 9 v).run Tryz.prog w = .ok (.string (bs l)) w := by
 rcases h.form2 with ⟨rfl, rfl⟩ | ⟨g, cap, rfl, _, _, _, _, hr⟩
 ·exact run_convert_bytes_nil w 67 5 Tryz.underlying67 Tryz.underlying5 0 0 9 Tryz.underlying9
 ·exact run_convert_bytes_back w 67 9 5 ⟨g, 0, none⟩ cap l Tryz.underlying67 Tryz.underlying5 Tryz.underlying9 (fun j hj => by
   have := hr j l[j] (List.getElem?_eq_getElem hj) 0 _ rfl
   rw [add_addr, Nat.zero_add]
   rw [show byT.sz = 1 from rfl] at this
   simpa using this)
theorem pre_any (l p : List UInt8) (w : World) : Calls Tryz.prog 112 #[.string (bs l), .string (bs p)] w fun r w' => r = .returned (.bool (p.isPrefixOf l)) ∧ w = w' := by
 have h := Tryz.strings_HasPrefix (bs l) (bs p) w
 rw [bs_data, bs_data] at h
 exact h.mono fun _ _ ⟨h1, h2⟩ => ⟨h1, h2.symm⟩
theorem pre_iff (c : UInt8) (l : List UInt8) : List.isPrefixOf [c] l = true ↔ ∃ r, l = c :: r := by
 cases l with
 | nil => simp [List.isPrefixOf]
 | cons b r =>
  constructor
  ·intro h
   have : c = b := by simpa [List.isPrefixOf] using h
   exact ⟨r, by rw [this]⟩
  ·rintro ⟨q, hq⟩
   cases hq
   simp [List.isPrefixOf]
theorem bs_mid (l : List UInt8) (i j : Nat) : (bs l).extract i j = bs ((l.take j).drop i) := by
 apply ByteArray.ext
 apply Array.ext'
 rw [ByteArray.data_extract, Array.toList_extract]
 simp [bs, List.extract, List.drop_take]
theorem span_at {p : UInt8 → Bool} {s : List UInt8} {i : Nat} (h : (s.take i).all p = true) (hn : ∀ hi : i < s.length, p s[i] = false) : spanL p s = (s.take i, s.drop i) := by
 have := spanL_app p (s.take i) (s.drop i) h (fun b r hb => by
  have hi : i < s.length := by
   rcases Nat.lt_or_ge i s.length with h | h
   ·exact h
   ·rw [List.drop_eq_nil_of_le h] at hb; cases hb
  rw [List.drop_eq_getElem_cons hi] at hb
  cases hb
  exact hn hi)
 rwa [List.take_append_drop] at this
def tokM (kk : List UInt8) : List UInt8 → Rd Tok
 | 123 :: s1 => nameL kk s1
 | s1 => opL kk [] s1
theorem tokenL_at {s kk r1 : List UInt8} (h : spanL upCh s = (kk, r1)) : tokenL s = if kk = [] then .bad else tokM kk r1 := by
 unfold tokenL tokM
 rw [h]
 simp only
 split
 ·rfl
 ·cases r1 with
  | nil => rfl
  | cons c r =>
   simp only
   by_cases hc : c = 123
   ·subst hc; rfl
   ·rw [if_neg hc]
    split
    ·rename_i s1 heq
     cases heq
     exact absurd rfl hc
    ·rfl
theorem tokM_plain {kk r1 : List UInt8} (hr : ∀ r, r1 ≠ 123 :: r) : tokM kk r1 = opL kk [] r1 := by
 unfold tokM
 split
 ·rename_i s1
  exact absurd rfl (hr s1)
 ·rfl
def nmT (kk nn : List UInt8) : List UInt8 → Rd Tok
 | [] => .cut
 | c :: s2 => if nn = [] then .bad else if c = 125 then opL kk nn s2 else .bad
theorem nameL_at {kk s1 nn r2 : List UInt8} (h : spanL nmCh s1 = (nn, r2)) : nameL kk s1 = nmT kk nn r2 := by
 unfold nameL nmT
 rw [h]
 cases r2 <;> rfl
def valM (t : Tok) : Rd (List UInt8) → Rd Tok
 | .bad => .bad
 | .cut => .cut
 | .ok v q => .ok { t with val := v } q
theorem opL_yes {k n x o r : List UInt8} (ho : opOf x = some o) (hr : x.drop o.length = 34 :: r) : opL k n x = valM ⟨k, n, o, []⟩ (valL r) := by
 unfold opL valM
 rw [ho]
 simp only
 rw [hr]
 split
 ·rename_i r' heq
  cases heq
  cases valL r <;> rfl
 ·rename_i hne
  exact absurd rfl (hne r)
theorem opL_none {k n x : List UInt8} (ho : opOf x = none) : opL k n x = .bad := by
 unfold opL
 rw [ho]
theorem opL_noq {k n x o : List UInt8} (ho : opOf x = some o) (hr : ∀ r, x.drop o.length ≠ 34 :: r) : opL k n x = .bad := by
 unfold opL
 rw [ho]
 simp only
def preV (a : List UInt8) : Rd (List UInt8) → Rd (List UInt8)
 | .bad => .bad
 | .cut => .cut
 | .ok v q => .ok (a ++ v) q
theorem preV_app (a b : List UInt8) (x : Rd (List UInt8)) : preV a (preV b x) = preV (a ++ b) x := by cases x <;> simp [preV]
theorem valL_nil : valL [] = .cut := by rw [valL.eq_def]
theorem valL_quote (r : List UInt8) : valL (34 :: r) = .ok [] r := by rw [valL.eq_def]; rfl
theorem valL_tab (r : List UInt8) : valL (9 :: r) = .bad := by rw [valL.eq_def]; rfl
theorem valL_esc2 (r : List UInt8) : valL (92 :: 34 :: r) = preV [34] (valL r) := by
 rw [valL_esc]
 cases valL r <;> rfl
theorem valL_one (b : UInt8) (r : List UInt8) (h1 : b ≠ 34) (h2 : b ≠ 9) (h3 : List.isPrefixOf [92, 34] (b :: r) = false) : valL (b :: r) = preV [b] (valL r) := by
 rw [valL_step b r h1 h2 (fun hb q hq => by rw [hb, hq] at h3; simp [List.isPrefixOf] at h3)]
 cases valL r <;> rfl
def TokR (s : List UInt8) (t : Tok) (rest : List UInt8) (e : Nat) : Prop :=
 match tokenL s with | .bad => e = 82 | .cut => e = 83 | .ok y q => t = y ∧ rest = q ∧ e = 0
theorem TokR.bad {s : List UInt8} (h : tokenL s = .bad) (t : Tok) (r : List UInt8) : TokR s t r 82 := by unfold TokR; rw [h]
theorem TokR.cut {s : List UInt8} (h : tokenL s = .cut) (t : Tok) (r : List UInt8) : TokR s t r 83 := by unfold TokR; rw [h]
theorem TokR.ok {s : List UInt8} {t : Tok} {r : List UInt8} (h : tokenL s = .ok t r) : TokR s t r 0 := by unfold TokR; rw [h]; exact ⟨rfl, rfl, rfl⟩
theorem tok_end {a : Act} {W : World} {R : Nat} {t : Tok} {b e : Value} {Q : Ending → World → Prop} (h : TAt W R t) (h2 : a.tmps.getD 2 undef = .pointer (some ⟨R, 0, none⟩)) (h3 : a.tmps.getD 3 undef = b) (h4 : a.tmps.getD 4 undef = e) (hd : a.defers = [])
  (hq : Q (.returned (.tuple #[.agg (tokC t), b, e])) W) : bodyPost Tryz.prog Tryz.f78 Q .ret a W := by
 obtain ⟨z0, z1, z2, z3⟩ := h.cells
 refine bodyPost_ret (v := .tuple #[.agg (tokC t), b, e]) ?_ hd hq
 rw [Array.getD_eq_getD_getElem?] at h2 h3 h4
 simp [results, Tryz.results78, go_sem, h2, h3, h4, z0, z1, z2, z3]
 rfl
theorem TAt.drew {w : World} {b : Nat} {x : Tok} (h : TAt w b x) : TAt w.drew b x := h
theorem opOf_first {s o : List UInt8} {i : Nat} (h : (opsL.take i).find? (fun q => q.isPrefixOf s) = none) (ho : opsL[i]? = some o) :
  (o.isPrefixOf s = true → opOf s = some o) ∧ (o.isPrefixOf s = false → (opsL.take (i + 1)).find? (fun q => q.isPrefixOf s) = none) := by
 have hi := (List.getElem?_eq_some_iff.1 ho).1
 constructor
 ·intro hp
  unfold opOf
  rw [← List.take_append_drop i opsL, List.find?_append, h, Option.none_or, drop_get ho, List.find?_cons, hp]
 ·intro hp
  rw [List.take_add_one, ho, List.find?_append, h, Option.none_or]
  simp [hp]
end Go.Proofs.YtkkibibecgcbmaaGreatDoor.Lx
