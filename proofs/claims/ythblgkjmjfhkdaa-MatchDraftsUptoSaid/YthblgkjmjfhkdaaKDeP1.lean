/- Attributes on lists: the order of names, what Get, Set, Sorted and Changed say of a list. -/
import Derived.Test.YthblgkjmjfhkdaaRows
import Derived.Lib.Walk
import Derived.Lib.Strings
import Derived.Lib.Bytealg
namespace Go.Proofs.Ythblgkjmjfhkdaa.De

abbrev Atr := ByteArray × ByteArray

/-- The order of names. -/
def lt (a b : ByteArray) : Bool := Op.bytesLess a.toList b.toList

theorem bl_irrefl : ∀ a : List UInt8, Op.bytesLess a a = false
  | [] => rfl
  | c :: a => by
    rw [Op.bytesLess, bl_irrefl a]
    simp
theorem data_inj {a b : ByteArray} (h : a.toList = b.toList) : a = b := by
  rw [Lib.toList_data, Lib.toList_data] at h
  exact ByteArray.ext (Array.toList_inj.1 h)
theorem lt_irrefl (a : ByteArray) : lt a a = false := bl_irrefl _
def Srt (l : List Atr) : Prop := l.Pairwise fun x y => lt x.1 y.1 = true

/-- What Get says of any list. -/
def getP (n : ByteArray) : List Atr → Option ByteArray
  | [] => none
  | x :: l => if x.1 = n then some x.2 else getP n l

theorem getP_mem {n v : ByteArray} : ∀ {l : List Atr}, getP n l = some v → (n, v) ∈ l
  | [], h => by simp [getP] at h
  | x :: l, h => by
    rw [getP] at h
    split at h
    · rename_i e
      have : x = (n, v) := Prod.ext e (Option.some.inj h)
      rw [this]
      exact List.mem_cons_self ..
    · exact List.mem_cons_of_mem _ (getP_mem h)

def one (n v : ByteArray) : List Atr := if v = ⟨#[]⟩ then [] else [(n, v)]

end Go.Proofs.Ythblgkjmjfhkdaa.De
