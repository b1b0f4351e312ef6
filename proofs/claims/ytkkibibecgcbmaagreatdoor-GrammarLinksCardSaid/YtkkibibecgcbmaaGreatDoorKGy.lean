/- The reference's Value. -/
import Derived.Test.YtkkibibecgcbmaaGreatDoorKGx
namespace Go.Proofs.YtkkibibecgcbmaaGreatDoor
open Go.RowKit

/-- The value of the first term with a key. -/
def valO (l : List Tm) (k : Int) : Option (List UInt8) := (l.find? fun t => t.key == k).map (·.val)
def optV : Option (List UInt8) → Value
  | none => .tuple #[.string (bs []), .bool false]
  | some s => .tuple #[.string (bs s), .bool true]
theorem valO_at {l : List Tm} {i : Nat} {x : Tm} {k : Int} (hx : l[i]? = some x) (he : x.key = k) (hn : ∀ t ∈ l.take i, t.key ≠ k) : valO l k = some x.val := by
  unfold valO
  obtain ⟨hi, hxi⟩ := List.getElem?_eq_some_iff.1 hx
  have hd : l.drop i = x :: l.drop (i + 1) := by rw [List.drop_eq_getElem_cons hi, hxi]
  rw [← List.take_append_drop i l, List.find?_append, hd, List.find?_eq_none.2 (fun t ht => by simpa using hn t ht)]
  simp [he]
set_option maxRecDepth 100000 in
set_option maxHeartbeats 2000000 in
theorem value_any {w : World} {v : Value} {l : List Tm} (hh : tmT.Has w v l) (hl : l.length ≤ 1000000) (k : Int) : Calls Tryz.prog 31 #[v, .int .i64 k] w fun r w' => r = .returned (optV (valO l k)) ∧ Kp [] w w' := by
  obtain ⟨va, vc, rfl, hrow⟩ := hh.form
  have HROW := Lib.hid hrow
  clear hrow hh
  go_enter Tryz.func31, Tryz.ntmps31
  go_wp2
  go_loopg [6] l.length (fun g s6 wx => ∃ i : Nat, s6 = .int .i64 (i : Int) ∧ (∀ t ∈ l.take i, t.key ≠ k) ∧ i + g = l.length ∧ Kp [] w wx)
  case atStart => exact ⟨0, rfl, (fun t ht => by simp at ht), by omega, Kp.refl _ _⟩
  case round =>
    obtain ⟨i, rfl, hno, hig, hkp⟩ := hrel
    have HK := Lib.hid hkp
    have HNO := Lib.hid hno
    by_cases hi : i < l.length
    · obtain ⟨g, rfl⟩ : ∃ g, gk = g + 1 := ⟨gk - 1, by omega⟩
      obtain ⟨b, o, rfl, hbl, hr⟩ := HROW.out (by rintro rfl; simp at hi)
      obtain ⟨x, hx⟩ : ∃ x, l[i]? = some x := ⟨_, List.getElem?_eq_getElem hi⟩
      have hiz : (i : Int) < (l.length : Int) := by omega
      have hr2 : tmT.Row wr b o l := hr.keep (hkp.block b hbl (by simp))
      obtain ⟨c0, c1, c2, c3⟩ := tmRow hr2 hx
      have hwi : IntKind.i64.wrap ((i : Int) + 1) = ((i + 1 : Nat) : Int) := by rw [IntKind.wrap_i64]; omega
      have HI := Lib.hid hig
      have HX := Lib.hid hx
      clear hkp hr hr2 hx hig hbl hno
      by_cases he : x.key = k
      · have HV := Lib.hid (valO_at HX.out he HNO.out)
        subst he
        go_wp2
        go_ret2
        exact ⟨by rw [HV.out]; rfl, HK.out⟩
      · have HS := Lib.hid (show ∀ t ∈ l.take (i + 1), t.key ≠ k from fun t ht => by
          rw [List.take_add_one, HX.out] at ht
          rcases List.mem_append.1 ht with ht | ht
          · exact HNO.out t ht
          · simp at ht
            subst ht
            exact he)
        go_wp2
        go_roundg g
        case measure => omega
        case rel => exact ⟨i + 1, rfl, HS.out, by have := HI.out; omega, HK.out⟩
    · have hiz : ¬ ((i : Int) < (l.length : Int)) := by omega
      have hie : l.take i = l := List.take_of_length_le (by omega)
      rw [hie] at hno
      have HV := Lib.hid (show valO l k = none by
        unfold valO
        rw [List.find?_eq_none.2 fun t ht => by simpa using hno t ht]
        rfl)
      clear hkp hig hi hie hno HNO
      go_wp2
      go_ret2
      exact ⟨by rw [HV.out]; rfl, HK.out⟩
end Go.Proofs.YtkkibibecgcbmaaGreatDoor
