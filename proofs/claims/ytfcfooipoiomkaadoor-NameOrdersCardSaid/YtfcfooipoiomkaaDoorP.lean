/- NameOrders: the law's walk. -/
import Derived.Test.YtfcfooipoiomkaaDoorK
import Derived.Test.YtfcfooipoiomkaaDoorO
namespace Go.Proofs.YtfcfooipoiomkaaDoor
open Go.RowKit

theorem bel3 {w W1 W2 : World} (h : Below w.heap.size w W1) (k : Below W1.heap.size W1 W2) : Below w.heap.size w W2 := h.trans (k.mono h.size)

set_option maxHeartbeats 1000000 in
set_option maxRecDepth 100000 in
theorem orderMMF (a b c : ByteArray) (w : World) (la : (a.size : Int) ≤ 200) (lb : (b.size : Int) ≤ 200) (lc : (c.size : Int) ≤ 200) (Z : Int) (hz : Z < 0) (hne : (a.toList == b.toList) = false) (u2 : Bool)
    (hab : ∀ W, Calls Tryd.prog 28 #[.string a, .string b] W (Bel (.tuple #[.int .i64 (-1), .int .i64 0]) W)) (hbc : ∀ W, Calls Tryd.prog 28 #[.string b, .string c] W (Bel (.tuple #[.int .i64 (-1), .int .i64 0]) W))
    (hac : ∀ W, Calls Tryd.prog 28 #[.string a, .string c] W (Bel (.tuple #[.int .i64 Z, .int .i64 0]) W)) (hba : ∀ W, Calls Tryd.prog 28 #[.string b, .string a] W (Bel (.tuple #[.int .i64 1, .int .i64 0]) W))
    (uac : ∀ W, Calls Tryd.prog 29 #[.string a, .string c] W (Bel (.tuple #[.bool false, .int .i64 0]) W)) (uab : ∀ W, Calls Tryd.prog 29 #[.string a, .string b] W (Bel (.tuple #[.bool u2, .int .i64 0]) W)) :
    Calls Tryd.prog 7 #[.string a, .string b, .string c] w (Bel (.bool true) w) := by
  have Hk := Lib.hid known_any
  have Hhab := Lib.hid hab
  have Hhbc := Lib.hid hbc
  have Hhac := Lib.hid hac
  have Hhba := Lib.hid hba
  have Huac := Lib.hid uac
  have Huab := Lib.hid uab
  clear hab hbc hac hba uac uab
  go_enter Tryd.func7, Tryd.ntmps7
  go_wp2_with fail
  refine (Hk.out _).mono ?_
  rintro e W1 ⟨rfl, hb1⟩
  go_wp2_with fail
  refine (Hhab.out _).mono ?_
  rintro e W2 ⟨rfl, hb2⟩
  have hc2 := bel3 hb1 hb2
  clear hb2 hb1
  go_wp2_with fail
  refine (Hhbc.out _).mono ?_
  rintro e W3 ⟨rfl, hb3⟩
  have hc3 := bel3 hc2 hb3
  clear hb3 hc2
  go_wp2_with fail
  refine (Hhac.out _).mono ?_
  rintro e W4 ⟨rfl, hb4⟩
  have hc4 := bel3 hc3 hb4
  clear hb4 hc3
  go_wp2_with fail
  refine (Hhba.out _).mono ?_
  rintro e W5 ⟨rfl, hb5⟩
  have hc5 := bel3 hc4 hb5
  clear hb5 hc4
  go_wp2_with fail
  refine (Huac.out _).mono ?_
  rintro e W6 ⟨rfl, hb6⟩
  have hc6 := bel3 hc5 hb6
  clear hb6 hc5
  go_wp2_with fail
  refine (Huab.out _).mono ?_
  rintro e W7 ⟨rfl, hb7⟩
  have hc7 := bel3 hc6 hb7
  clear hb7 hc6
  go_wp2
  go_ret
  exact ⟨rfl, hc7⟩

set_option maxHeartbeats 1000000 in
set_option maxRecDepth 100000 in
theorem orderMMT (a b c : ByteArray) (w : World) (la : (a.size : Int) ≤ 200) (lb : (b.size : Int) ≤ 200) (lc : (c.size : Int) ≤ 200) (Z : Int) (hz : Z < 0) (hne : (a.toList == b.toList) = false)
    (hab : ∀ W, Calls Tryd.prog 28 #[.string a, .string b] W (Bel (.tuple #[.int .i64 (-1), .int .i64 0]) W)) (hbc : ∀ W, Calls Tryd.prog 28 #[.string b, .string c] W (Bel (.tuple #[.int .i64 (-1), .int .i64 0]) W))
    (hac : ∀ W, Calls Tryd.prog 28 #[.string a, .string c] W (Bel (.tuple #[.int .i64 Z, .int .i64 0]) W)) (hba : ∀ W, Calls Tryd.prog 28 #[.string b, .string a] W (Bel (.tuple #[.int .i64 1, .int .i64 0]) W))
    (uac : ∀ W, Calls Tryd.prog 29 #[.string a, .string c] W (Bel (.tuple #[.bool true, .int .i64 0]) W)) (uab : ∀ W, Calls Tryd.prog 29 #[.string a, .string b] W (Bel (.tuple #[.bool true, .int .i64 0]) W)) :
    Calls Tryd.prog 7 #[.string a, .string b, .string c] w (Bel (.bool true) w) := by
  have Hk := Lib.hid known_any
  have Hhab := Lib.hid hab
  have Hhbc := Lib.hid hbc
  have Hhac := Lib.hid hac
  have Hhba := Lib.hid hba
  have Huac := Lib.hid uac
  have Huab := Lib.hid uab
  clear hab hbc hac hba uac uab
  go_enter Tryd.func7, Tryd.ntmps7
  go_wp2_with fail
  refine (Hk.out _).mono ?_
  rintro e W1 ⟨rfl, hb1⟩
  go_wp2_with fail
  refine (Hhab.out _).mono ?_
  rintro e W2 ⟨rfl, hb2⟩
  have hc2 := bel3 hb1 hb2
  clear hb2 hb1
  go_wp2_with fail
  refine (Hhbc.out _).mono ?_
  rintro e W3 ⟨rfl, hb3⟩
  have hc3 := bel3 hc2 hb3
  clear hb3 hc2
  go_wp2_with fail
  refine (Hhac.out _).mono ?_
  rintro e W4 ⟨rfl, hb4⟩
  have hc4 := bel3 hc3 hb4
  clear hb4 hc3
  go_wp2_with fail
  refine (Hhba.out _).mono ?_
  rintro e W5 ⟨rfl, hb5⟩
  have hc5 := bel3 hc4 hb5
  clear hb5 hc4
  go_wp2_with fail
  refine (Huac.out _).mono ?_
  rintro e W6 ⟨rfl, hb6⟩
  have hc6 := bel3 hc5 hb6
  clear hb6 hc5
  go_wp2_with fail
  refine (Huab.out _).mono ?_
  rintro e W7 ⟨rfl, hb7⟩
  have hc7 := bel3 hc6 hb7
  clear hb7 hc6
  go_wp2
  go_ret
  exact ⟨rfl, hc7⟩

set_option maxHeartbeats 1000000 in
set_option maxRecDepth 100000 in
theorem orderMOF (a b c : ByteArray) (w : World) (la : (a.size : Int) ≤ 200) (lb : (b.size : Int) ≤ 200) (lc : (c.size : Int) ≤ 200) (Z : Int) (hz : Z ≤ 0) (hne : (a.toList == b.toList) = false) (u2 : Bool)
    (hab : ∀ W, Calls Tryd.prog 28 #[.string a, .string b] W (Bel (.tuple #[.int .i64 (-1), .int .i64 0]) W)) (hbc : ∀ W, Calls Tryd.prog 28 #[.string b, .string c] W (Bel (.tuple #[.int .i64 0, .int .i64 0]) W))
    (hac : ∀ W, Calls Tryd.prog 28 #[.string a, .string c] W (Bel (.tuple #[.int .i64 Z, .int .i64 0]) W)) (hba : ∀ W, Calls Tryd.prog 28 #[.string b, .string a] W (Bel (.tuple #[.int .i64 1, .int .i64 0]) W))
    (uac : ∀ W, Calls Tryd.prog 29 #[.string a, .string c] W (Bel (.tuple #[.bool false, .int .i64 0]) W)) (uab : ∀ W, Calls Tryd.prog 29 #[.string a, .string b] W (Bel (.tuple #[.bool u2, .int .i64 0]) W)) :
    Calls Tryd.prog 7 #[.string a, .string b, .string c] w (Bel (.bool true) w) := by
  have Hk := Lib.hid known_any
  have Hhab := Lib.hid hab
  have Hhbc := Lib.hid hbc
  have Hhac := Lib.hid hac
  have Hhba := Lib.hid hba
  have Huac := Lib.hid uac
  have Huab := Lib.hid uab
  clear hab hbc hac hba uac uab
  go_enter Tryd.func7, Tryd.ntmps7
  go_wp2_with fail
  refine (Hk.out _).mono ?_
  rintro e W1 ⟨rfl, hb1⟩
  go_wp2_with fail
  refine (Hhab.out _).mono ?_
  rintro e W2 ⟨rfl, hb2⟩
  have hc2 := bel3 hb1 hb2
  clear hb2 hb1
  go_wp2_with fail
  refine (Hhbc.out _).mono ?_
  rintro e W3 ⟨rfl, hb3⟩
  have hc3 := bel3 hc2 hb3
  clear hb3 hc2
  go_wp2_with fail
  refine (Hhac.out _).mono ?_
  rintro e W4 ⟨rfl, hb4⟩
  have hc4 := bel3 hc3 hb4
  clear hb4 hc3
  go_wp2_with fail
  refine (Hhba.out _).mono ?_
  rintro e W5 ⟨rfl, hb5⟩
  have hc5 := bel3 hc4 hb5
  clear hb5 hc4
  go_wp2_with fail
  refine (Huac.out _).mono ?_
  rintro e W6 ⟨rfl, hb6⟩
  have hc6 := bel3 hc5 hb6
  clear hb6 hc5
  go_wp2_with fail
  refine (Huab.out _).mono ?_
  rintro e W7 ⟨rfl, hb7⟩
  have hc7 := bel3 hc6 hb7
  clear hb7 hc6
  go_wp2
  go_ret
  exact ⟨rfl, hc7⟩

set_option maxHeartbeats 1000000 in
set_option maxRecDepth 100000 in
theorem orderMOT (a b c : ByteArray) (w : World) (la : (a.size : Int) ≤ 200) (lb : (b.size : Int) ≤ 200) (lc : (c.size : Int) ≤ 200) (Z : Int) (hz : Z ≤ 0) (hne : (a.toList == b.toList) = false)
    (hab : ∀ W, Calls Tryd.prog 28 #[.string a, .string b] W (Bel (.tuple #[.int .i64 (-1), .int .i64 0]) W)) (hbc : ∀ W, Calls Tryd.prog 28 #[.string b, .string c] W (Bel (.tuple #[.int .i64 0, .int .i64 0]) W))
    (hac : ∀ W, Calls Tryd.prog 28 #[.string a, .string c] W (Bel (.tuple #[.int .i64 Z, .int .i64 0]) W)) (hba : ∀ W, Calls Tryd.prog 28 #[.string b, .string a] W (Bel (.tuple #[.int .i64 1, .int .i64 0]) W))
    (uac : ∀ W, Calls Tryd.prog 29 #[.string a, .string c] W (Bel (.tuple #[.bool true, .int .i64 0]) W)) (uab : ∀ W, Calls Tryd.prog 29 #[.string a, .string b] W (Bel (.tuple #[.bool true, .int .i64 0]) W)) :
    Calls Tryd.prog 7 #[.string a, .string b, .string c] w (Bel (.bool true) w) := by
  have Hk := Lib.hid known_any
  have Hhab := Lib.hid hab
  have Hhbc := Lib.hid hbc
  have Hhac := Lib.hid hac
  have Hhba := Lib.hid hba
  have Huac := Lib.hid uac
  have Huab := Lib.hid uab
  clear hab hbc hac hba uac uab
  go_enter Tryd.func7, Tryd.ntmps7
  go_wp2_with fail
  refine (Hk.out _).mono ?_
  rintro e W1 ⟨rfl, hb1⟩
  go_wp2_with fail
  refine (Hhab.out _).mono ?_
  rintro e W2 ⟨rfl, hb2⟩
  have hc2 := bel3 hb1 hb2
  clear hb2 hb1
  go_wp2_with fail
  refine (Hhbc.out _).mono ?_
  rintro e W3 ⟨rfl, hb3⟩
  have hc3 := bel3 hc2 hb3
  clear hb3 hc2
  go_wp2_with fail
  refine (Hhac.out _).mono ?_
  rintro e W4 ⟨rfl, hb4⟩
  have hc4 := bel3 hc3 hb4
  clear hb4 hc3
  go_wp2_with fail
  refine (Hhba.out _).mono ?_
  rintro e W5 ⟨rfl, hb5⟩
  have hc5 := bel3 hc4 hb5
  clear hb5 hc4
  go_wp2_with fail
  refine (Huac.out _).mono ?_
  rintro e W6 ⟨rfl, hb6⟩
  have hc6 := bel3 hc5 hb6
  clear hb6 hc5
  go_wp2_with fail
  refine (Huab.out _).mono ?_
  rintro e W7 ⟨rfl, hb7⟩
  have hc7 := bel3 hc6 hb7
  clear hb7 hc6
  go_wp2
  go_ret
  exact ⟨rfl, hc7⟩

set_option maxHeartbeats 1000000 in
set_option maxRecDepth 100000 in
theorem orderMPF (a b c : ByteArray) (w : World) (la : (a.size : Int) ≤ 200) (lb : (b.size : Int) ≤ 200) (lc : (c.size : Int) ≤ 200) (Z : Int) (_hz : Z ≤ 1) (hne : (a.toList == b.toList) = false) (u2 : Bool)
    (hab : ∀ W, Calls Tryd.prog 28 #[.string a, .string b] W (Bel (.tuple #[.int .i64 (-1), .int .i64 0]) W)) (hbc : ∀ W, Calls Tryd.prog 28 #[.string b, .string c] W (Bel (.tuple #[.int .i64 1, .int .i64 0]) W))
    (hac : ∀ W, Calls Tryd.prog 28 #[.string a, .string c] W (Bel (.tuple #[.int .i64 Z, .int .i64 0]) W)) (hba : ∀ W, Calls Tryd.prog 28 #[.string b, .string a] W (Bel (.tuple #[.int .i64 1, .int .i64 0]) W))
    (uac : ∀ W, Calls Tryd.prog 29 #[.string a, .string c] W (Bel (.tuple #[.bool false, .int .i64 0]) W)) (uab : ∀ W, Calls Tryd.prog 29 #[.string a, .string b] W (Bel (.tuple #[.bool u2, .int .i64 0]) W)) :
    Calls Tryd.prog 7 #[.string a, .string b, .string c] w (Bel (.bool true) w) := by
  have Hk := Lib.hid known_any
  have Hhab := Lib.hid hab
  have Hhbc := Lib.hid hbc
  have Hhac := Lib.hid hac
  have Hhba := Lib.hid hba
  have Huac := Lib.hid uac
  have Huab := Lib.hid uab
  clear hab hbc hac hba uac uab
  go_enter Tryd.func7, Tryd.ntmps7
  go_wp2_with fail
  refine (Hk.out _).mono ?_
  rintro e W1 ⟨rfl, hb1⟩
  go_wp2_with fail
  refine (Hhab.out _).mono ?_
  rintro e W2 ⟨rfl, hb2⟩
  have hc2 := bel3 hb1 hb2
  clear hb2 hb1
  go_wp2_with fail
  refine (Hhbc.out _).mono ?_
  rintro e W3 ⟨rfl, hb3⟩
  have hc3 := bel3 hc2 hb3
  clear hb3 hc2
  go_wp2_with fail
  refine (Hhac.out _).mono ?_
  rintro e W4 ⟨rfl, hb4⟩
  have hc4 := bel3 hc3 hb4
  clear hb4 hc3
  go_wp2_with fail
  refine (Hhba.out _).mono ?_
  rintro e W5 ⟨rfl, hb5⟩
  have hc5 := bel3 hc4 hb5
  clear hb5 hc4
  go_wp2_with fail
  refine (Huac.out _).mono ?_
  rintro e W6 ⟨rfl, hb6⟩
  have hc6 := bel3 hc5 hb6
  clear hb6 hc5
  go_wp2_with fail
  refine (Huab.out _).mono ?_
  rintro e W7 ⟨rfl, hb7⟩
  have hc7 := bel3 hc6 hb7
  clear hb7 hc6
  go_wp2
  go_ret
  exact ⟨rfl, hc7⟩

set_option maxHeartbeats 1000000 in
set_option maxRecDepth 100000 in
theorem orderMPT (a b c : ByteArray) (w : World) (la : (a.size : Int) ≤ 200) (lb : (b.size : Int) ≤ 200) (lc : (c.size : Int) ≤ 200) (Z : Int) (_hz : Z ≤ 1) (hne : (a.toList == b.toList) = false) (u2 : Bool)
    (hab : ∀ W, Calls Tryd.prog 28 #[.string a, .string b] W (Bel (.tuple #[.int .i64 (-1), .int .i64 0]) W)) (hbc : ∀ W, Calls Tryd.prog 28 #[.string b, .string c] W (Bel (.tuple #[.int .i64 1, .int .i64 0]) W))
    (hac : ∀ W, Calls Tryd.prog 28 #[.string a, .string c] W (Bel (.tuple #[.int .i64 Z, .int .i64 0]) W)) (hba : ∀ W, Calls Tryd.prog 28 #[.string b, .string a] W (Bel (.tuple #[.int .i64 1, .int .i64 0]) W))
    (uac : ∀ W, Calls Tryd.prog 29 #[.string a, .string c] W (Bel (.tuple #[.bool true, .int .i64 0]) W)) (uab : ∀ W, Calls Tryd.prog 29 #[.string a, .string b] W (Bel (.tuple #[.bool u2, .int .i64 0]) W)) :
    Calls Tryd.prog 7 #[.string a, .string b, .string c] w (Bel (.bool true) w) := by
  have Hk := Lib.hid known_any
  have Hhab := Lib.hid hab
  have Hhbc := Lib.hid hbc
  have Hhac := Lib.hid hac
  have Hhba := Lib.hid hba
  have Huac := Lib.hid uac
  have Huab := Lib.hid uab
  clear hab hbc hac hba uac uab
  go_enter Tryd.func7, Tryd.ntmps7
  go_wp2_with fail
  refine (Hk.out _).mono ?_
  rintro e W1 ⟨rfl, hb1⟩
  go_wp2_with fail
  refine (Hhab.out _).mono ?_
  rintro e W2 ⟨rfl, hb2⟩
  have hc2 := bel3 hb1 hb2
  clear hb2 hb1
  go_wp2_with fail
  refine (Hhbc.out _).mono ?_
  rintro e W3 ⟨rfl, hb3⟩
  have hc3 := bel3 hc2 hb3
  clear hb3 hc2
  go_wp2_with fail
  refine (Hhac.out _).mono ?_
  rintro e W4 ⟨rfl, hb4⟩
  have hc4 := bel3 hc3 hb4
  clear hb4 hc3
  go_wp2_with fail
  refine (Hhba.out _).mono ?_
  rintro e W5 ⟨rfl, hb5⟩
  have hc5 := bel3 hc4 hb5
  clear hb5 hc4
  go_wp2_with fail
  refine (Huac.out _).mono ?_
  rintro e W6 ⟨rfl, hb6⟩
  have hc6 := bel3 hc5 hb6
  clear hb6 hc5
  go_wp2_with fail
  refine (Huab.out _).mono ?_
  rintro e W7 ⟨rfl, hb7⟩
  have hc7 := bel3 hc6 hb7
  clear hb7 hc6
  go_wp2
  go_ret
  exact ⟨rfl, hc7⟩

set_option maxHeartbeats 1000000 in
set_option maxRecDepth 100000 in
theorem orderOMF (a c : ByteArray) (w : World) (la : (a.size : Int) ≤ 200) (lc : (c.size : Int) ≤ 200) (Z : Int) (hz : Z ≤ 0) (u2 : Bool)
    (hab : ∀ W, Calls Tryd.prog 28 #[.string a, .string a] W (Bel (.tuple #[.int .i64 0, .int .i64 0]) W)) (hbc : ∀ W, Calls Tryd.prog 28 #[.string a, .string c] W (Bel (.tuple #[.int .i64 (-1), .int .i64 0]) W))
    (hac : ∀ W, Calls Tryd.prog 28 #[.string a, .string c] W (Bel (.tuple #[.int .i64 Z, .int .i64 0]) W)) (hba : ∀ W, Calls Tryd.prog 28 #[.string a, .string a] W (Bel (.tuple #[.int .i64 0, .int .i64 0]) W))
    (uac : ∀ W, Calls Tryd.prog 29 #[.string a, .string c] W (Bel (.tuple #[.bool false, .int .i64 0]) W)) (uab : ∀ W, Calls Tryd.prog 29 #[.string a, .string a] W (Bel (.tuple #[.bool u2, .int .i64 0]) W)) :
    Calls Tryd.prog 7 #[.string a, .string a, .string c] w (Bel (.bool true) w) := by
  have Hk := Lib.hid known_any
  have Hhab := Lib.hid hab
  have Hhbc := Lib.hid hbc
  have Hhac := Lib.hid hac
  have Hhba := Lib.hid hba
  have Huac := Lib.hid uac
  have Huab := Lib.hid uab
  clear hab hbc hac hba uac uab
  go_enter Tryd.func7, Tryd.ntmps7
  go_wp2_with fail
  refine (Hk.out _).mono ?_
  rintro e W1 ⟨rfl, hb1⟩
  go_wp2_with fail
  refine (Hhab.out _).mono ?_
  rintro e W2 ⟨rfl, hb2⟩
  have hc2 := bel3 hb1 hb2
  clear hb2 hb1
  go_wp2_with fail
  refine (Hhbc.out _).mono ?_
  rintro e W3 ⟨rfl, hb3⟩
  have hc3 := bel3 hc2 hb3
  clear hb3 hc2
  go_wp2_with fail
  refine (Hhac.out _).mono ?_
  rintro e W4 ⟨rfl, hb4⟩
  have hc4 := bel3 hc3 hb4
  clear hb4 hc3
  go_wp2_with fail
  refine (Hhba.out _).mono ?_
  rintro e W5 ⟨rfl, hb5⟩
  have hc5 := bel3 hc4 hb5
  clear hb5 hc4
  go_wp2_with fail
  refine (Huac.out _).mono ?_
  rintro e W6 ⟨rfl, hb6⟩
  have hc6 := bel3 hc5 hb6
  clear hb6 hc5
  go_wp2_with fail
  refine (Huab.out _).mono ?_
  rintro e W7 ⟨rfl, hb7⟩
  have hc7 := bel3 hc6 hb7
  clear hb7 hc6
  go_wp2
  go_ret
  exact ⟨rfl, hc7⟩

set_option maxHeartbeats 1000000 in
set_option maxRecDepth 100000 in
theorem orderOMT (a c : ByteArray) (w : World) (la : (a.size : Int) ≤ 200) (lc : (c.size : Int) ≤ 200) (Z : Int) (hz : Z ≤ 0) (u2 : Bool)
    (hab : ∀ W, Calls Tryd.prog 28 #[.string a, .string a] W (Bel (.tuple #[.int .i64 0, .int .i64 0]) W)) (hbc : ∀ W, Calls Tryd.prog 28 #[.string a, .string c] W (Bel (.tuple #[.int .i64 (-1), .int .i64 0]) W))
    (hac : ∀ W, Calls Tryd.prog 28 #[.string a, .string c] W (Bel (.tuple #[.int .i64 Z, .int .i64 0]) W)) (hba : ∀ W, Calls Tryd.prog 28 #[.string a, .string a] W (Bel (.tuple #[.int .i64 0, .int .i64 0]) W))
    (uac : ∀ W, Calls Tryd.prog 29 #[.string a, .string c] W (Bel (.tuple #[.bool true, .int .i64 0]) W)) (uab : ∀ W, Calls Tryd.prog 29 #[.string a, .string a] W (Bel (.tuple #[.bool u2, .int .i64 0]) W)) :
    Calls Tryd.prog 7 #[.string a, .string a, .string c] w (Bel (.bool true) w) := by
  have Hk := Lib.hid known_any
  have Hhab := Lib.hid hab
  have Hhbc := Lib.hid hbc
  have Hhac := Lib.hid hac
  have Hhba := Lib.hid hba
  have Huac := Lib.hid uac
  have Huab := Lib.hid uab
  clear hab hbc hac hba uac uab
  go_enter Tryd.func7, Tryd.ntmps7
  go_wp2_with fail
  refine (Hk.out _).mono ?_
  rintro e W1 ⟨rfl, hb1⟩
  go_wp2_with fail
  refine (Hhab.out _).mono ?_
  rintro e W2 ⟨rfl, hb2⟩
  have hc2 := bel3 hb1 hb2
  clear hb2 hb1
  go_wp2_with fail
  refine (Hhbc.out _).mono ?_
  rintro e W3 ⟨rfl, hb3⟩
  have hc3 := bel3 hc2 hb3
  clear hb3 hc2
  go_wp2_with fail
  refine (Hhac.out _).mono ?_
  rintro e W4 ⟨rfl, hb4⟩
  have hc4 := bel3 hc3 hb4
  clear hb4 hc3
  go_wp2_with fail
  refine (Hhba.out _).mono ?_
  rintro e W5 ⟨rfl, hb5⟩
  have hc5 := bel3 hc4 hb5
  clear hb5 hc4
  go_wp2_with fail
  refine (Huac.out _).mono ?_
  rintro e W6 ⟨rfl, hb6⟩
  have hc6 := bel3 hc5 hb6
  clear hb6 hc5
  go_wp2_with fail
  refine (Huab.out _).mono ?_
  rintro e W7 ⟨rfl, hb7⟩
  have hc7 := bel3 hc6 hb7
  clear hb7 hc6
  go_wp2
  go_ret
  exact ⟨rfl, hc7⟩

set_option maxHeartbeats 1000000 in
set_option maxRecDepth 100000 in
theorem orderOOF (a c : ByteArray) (w : World) (la : (a.size : Int) ≤ 200) (lc : (c.size : Int) ≤ 200) (Z : Int) (hz : Z ≤ 0) (u2 : Bool)
    (hab : ∀ W, Calls Tryd.prog 28 #[.string a, .string a] W (Bel (.tuple #[.int .i64 0, .int .i64 0]) W)) (hbc : ∀ W, Calls Tryd.prog 28 #[.string a, .string c] W (Bel (.tuple #[.int .i64 0, .int .i64 0]) W))
    (hac : ∀ W, Calls Tryd.prog 28 #[.string a, .string c] W (Bel (.tuple #[.int .i64 Z, .int .i64 0]) W)) (hba : ∀ W, Calls Tryd.prog 28 #[.string a, .string a] W (Bel (.tuple #[.int .i64 0, .int .i64 0]) W))
    (uac : ∀ W, Calls Tryd.prog 29 #[.string a, .string c] W (Bel (.tuple #[.bool false, .int .i64 0]) W)) (uab : ∀ W, Calls Tryd.prog 29 #[.string a, .string a] W (Bel (.tuple #[.bool u2, .int .i64 0]) W)) :
    Calls Tryd.prog 7 #[.string a, .string a, .string c] w (Bel (.bool true) w) := by
  have Hk := Lib.hid known_any
  have Hhab := Lib.hid hab
  have Hhbc := Lib.hid hbc
  have Hhac := Lib.hid hac
  have Hhba := Lib.hid hba
  have Huac := Lib.hid uac
  have Huab := Lib.hid uab
  clear hab hbc hac hba uac uab
  go_enter Tryd.func7, Tryd.ntmps7
  go_wp2_with fail
  refine (Hk.out _).mono ?_
  rintro e W1 ⟨rfl, hb1⟩
  go_wp2_with fail
  refine (Hhab.out _).mono ?_
  rintro e W2 ⟨rfl, hb2⟩
  have hc2 := bel3 hb1 hb2
  clear hb2 hb1
  go_wp2_with fail
  refine (Hhbc.out _).mono ?_
  rintro e W3 ⟨rfl, hb3⟩
  have hc3 := bel3 hc2 hb3
  clear hb3 hc2
  go_wp2_with fail
  refine (Hhac.out _).mono ?_
  rintro e W4 ⟨rfl, hb4⟩
  have hc4 := bel3 hc3 hb4
  clear hb4 hc3
  go_wp2_with fail
  refine (Hhba.out _).mono ?_
  rintro e W5 ⟨rfl, hb5⟩
  have hc5 := bel3 hc4 hb5
  clear hb5 hc4
  go_wp2_with fail
  refine (Huac.out _).mono ?_
  rintro e W6 ⟨rfl, hb6⟩
  have hc6 := bel3 hc5 hb6
  clear hb6 hc5
  go_wp2_with fail
  refine (Huab.out _).mono ?_
  rintro e W7 ⟨rfl, hb7⟩
  have hc7 := bel3 hc6 hb7
  clear hb7 hc6
  go_wp2
  go_ret
  exact ⟨rfl, hc7⟩

set_option maxHeartbeats 1000000 in
set_option maxRecDepth 100000 in
theorem orderOOT (a c : ByteArray) (w : World) (la : (a.size : Int) ≤ 200) (lc : (c.size : Int) ≤ 200) (Z : Int) (hz : Z ≤ 0) (u2 : Bool)
    (hab : ∀ W, Calls Tryd.prog 28 #[.string a, .string a] W (Bel (.tuple #[.int .i64 0, .int .i64 0]) W)) (hbc : ∀ W, Calls Tryd.prog 28 #[.string a, .string c] W (Bel (.tuple #[.int .i64 0, .int .i64 0]) W))
    (hac : ∀ W, Calls Tryd.prog 28 #[.string a, .string c] W (Bel (.tuple #[.int .i64 Z, .int .i64 0]) W)) (hba : ∀ W, Calls Tryd.prog 28 #[.string a, .string a] W (Bel (.tuple #[.int .i64 0, .int .i64 0]) W))
    (uac : ∀ W, Calls Tryd.prog 29 #[.string a, .string c] W (Bel (.tuple #[.bool true, .int .i64 0]) W)) (uab : ∀ W, Calls Tryd.prog 29 #[.string a, .string a] W (Bel (.tuple #[.bool u2, .int .i64 0]) W)) :
    Calls Tryd.prog 7 #[.string a, .string a, .string c] w (Bel (.bool true) w) := by
  have Hk := Lib.hid known_any
  have Hhab := Lib.hid hab
  have Hhbc := Lib.hid hbc
  have Hhac := Lib.hid hac
  have Hhba := Lib.hid hba
  have Huac := Lib.hid uac
  have Huab := Lib.hid uab
  clear hab hbc hac hba uac uab
  go_enter Tryd.func7, Tryd.ntmps7
  go_wp2_with fail
  refine (Hk.out _).mono ?_
  rintro e W1 ⟨rfl, hb1⟩
  go_wp2_with fail
  refine (Hhab.out _).mono ?_
  rintro e W2 ⟨rfl, hb2⟩
  have hc2 := bel3 hb1 hb2
  clear hb2 hb1
  go_wp2_with fail
  refine (Hhbc.out _).mono ?_
  rintro e W3 ⟨rfl, hb3⟩
  have hc3 := bel3 hc2 hb3
  clear hb3 hc2
  go_wp2_with fail
  refine (Hhac.out _).mono ?_
  rintro e W4 ⟨rfl, hb4⟩
  have hc4 := bel3 hc3 hb4
  clear hb4 hc3
  go_wp2_with fail
  refine (Hhba.out _).mono ?_
  rintro e W5 ⟨rfl, hb5⟩
  have hc5 := bel3 hc4 hb5
  clear hb5 hc4
  go_wp2_with fail
  refine (Huac.out _).mono ?_
  rintro e W6 ⟨rfl, hb6⟩
  have hc6 := bel3 hc5 hb6
  clear hb6 hc5
  go_wp2_with fail
  refine (Huab.out _).mono ?_
  rintro e W7 ⟨rfl, hb7⟩
  have hc7 := bel3 hc6 hb7
  clear hb7 hc6
  go_wp2
  go_ret
  exact ⟨rfl, hc7⟩

set_option maxHeartbeats 1000000 in
set_option maxRecDepth 100000 in
theorem orderOPF (a c : ByteArray) (w : World) (la : (a.size : Int) ≤ 200) (lc : (c.size : Int) ≤ 200) (Z : Int) (_hz : Z ≤ 1) (u2 : Bool)
    (hab : ∀ W, Calls Tryd.prog 28 #[.string a, .string a] W (Bel (.tuple #[.int .i64 0, .int .i64 0]) W)) (hbc : ∀ W, Calls Tryd.prog 28 #[.string a, .string c] W (Bel (.tuple #[.int .i64 1, .int .i64 0]) W))
    (hac : ∀ W, Calls Tryd.prog 28 #[.string a, .string c] W (Bel (.tuple #[.int .i64 Z, .int .i64 0]) W)) (hba : ∀ W, Calls Tryd.prog 28 #[.string a, .string a] W (Bel (.tuple #[.int .i64 0, .int .i64 0]) W))
    (uac : ∀ W, Calls Tryd.prog 29 #[.string a, .string c] W (Bel (.tuple #[.bool false, .int .i64 0]) W)) (uab : ∀ W, Calls Tryd.prog 29 #[.string a, .string a] W (Bel (.tuple #[.bool u2, .int .i64 0]) W)) :
    Calls Tryd.prog 7 #[.string a, .string a, .string c] w (Bel (.bool true) w) := by
  have Hk := Lib.hid known_any
  have Hhab := Lib.hid hab
  have Hhbc := Lib.hid hbc
  have Hhac := Lib.hid hac
  have Hhba := Lib.hid hba
  have Huac := Lib.hid uac
  have Huab := Lib.hid uab
  clear hab hbc hac hba uac uab
  go_enter Tryd.func7, Tryd.ntmps7
  go_wp2_with fail
  refine (Hk.out _).mono ?_
  rintro e W1 ⟨rfl, hb1⟩
  go_wp2_with fail
  refine (Hhab.out _).mono ?_
  rintro e W2 ⟨rfl, hb2⟩
  have hc2 := bel3 hb1 hb2
  clear hb2 hb1
  go_wp2_with fail
  refine (Hhbc.out _).mono ?_
  rintro e W3 ⟨rfl, hb3⟩
  have hc3 := bel3 hc2 hb3
  clear hb3 hc2
  go_wp2_with fail
  refine (Hhac.out _).mono ?_
  rintro e W4 ⟨rfl, hb4⟩
  have hc4 := bel3 hc3 hb4
  clear hb4 hc3
  go_wp2_with fail
  refine (Hhba.out _).mono ?_
  rintro e W5 ⟨rfl, hb5⟩
  have hc5 := bel3 hc4 hb5
  clear hb5 hc4
  go_wp2_with fail
  refine (Huac.out _).mono ?_
  rintro e W6 ⟨rfl, hb6⟩
  have hc6 := bel3 hc5 hb6
  clear hb6 hc5
  go_wp2_with fail
  refine (Huab.out _).mono ?_
  rintro e W7 ⟨rfl, hb7⟩
  have hc7 := bel3 hc6 hb7
  clear hb7 hc6
  go_wp2
  go_ret
  exact ⟨rfl, hc7⟩

set_option maxHeartbeats 1000000 in
set_option maxRecDepth 100000 in
theorem orderOPT (a c : ByteArray) (w : World) (la : (a.size : Int) ≤ 200) (lc : (c.size : Int) ≤ 200) (Z : Int) (_hz : Z ≤ 1) (u2 : Bool)
    (hab : ∀ W, Calls Tryd.prog 28 #[.string a, .string a] W (Bel (.tuple #[.int .i64 0, .int .i64 0]) W)) (hbc : ∀ W, Calls Tryd.prog 28 #[.string a, .string c] W (Bel (.tuple #[.int .i64 1, .int .i64 0]) W))
    (hac : ∀ W, Calls Tryd.prog 28 #[.string a, .string c] W (Bel (.tuple #[.int .i64 Z, .int .i64 0]) W)) (hba : ∀ W, Calls Tryd.prog 28 #[.string a, .string a] W (Bel (.tuple #[.int .i64 0, .int .i64 0]) W))
    (uac : ∀ W, Calls Tryd.prog 29 #[.string a, .string c] W (Bel (.tuple #[.bool true, .int .i64 0]) W)) (uab : ∀ W, Calls Tryd.prog 29 #[.string a, .string a] W (Bel (.tuple #[.bool u2, .int .i64 0]) W)) :
    Calls Tryd.prog 7 #[.string a, .string a, .string c] w (Bel (.bool true) w) := by
  have Hk := Lib.hid known_any
  have Hhab := Lib.hid hab
  have Hhbc := Lib.hid hbc
  have Hhac := Lib.hid hac
  have Hhba := Lib.hid hba
  have Huac := Lib.hid uac
  have Huab := Lib.hid uab
  clear hab hbc hac hba uac uab
  go_enter Tryd.func7, Tryd.ntmps7
  go_wp2_with fail
  refine (Hk.out _).mono ?_
  rintro e W1 ⟨rfl, hb1⟩
  go_wp2_with fail
  refine (Hhab.out _).mono ?_
  rintro e W2 ⟨rfl, hb2⟩
  have hc2 := bel3 hb1 hb2
  clear hb2 hb1
  go_wp2_with fail
  refine (Hhbc.out _).mono ?_
  rintro e W3 ⟨rfl, hb3⟩
  have hc3 := bel3 hc2 hb3
  clear hb3 hc2
  go_wp2_with fail
  refine (Hhac.out _).mono ?_
  rintro e W4 ⟨rfl, hb4⟩
  have hc4 := bel3 hc3 hb4
  clear hb4 hc3
  go_wp2_with fail
  refine (Hhba.out _).mono ?_
  rintro e W5 ⟨rfl, hb5⟩
  have hc5 := bel3 hc4 hb5
  clear hb5 hc4
  go_wp2_with fail
  refine (Huac.out _).mono ?_
  rintro e W6 ⟨rfl, hb6⟩
  have hc6 := bel3 hc5 hb6
  clear hb6 hc5
  go_wp2_with fail
  refine (Huab.out _).mono ?_
  rintro e W7 ⟨rfl, hb7⟩
  have hc7 := bel3 hc6 hb7
  clear hb7 hc6
  go_wp2
  go_ret
  exact ⟨rfl, hc7⟩

set_option maxHeartbeats 1000000 in
set_option maxRecDepth 100000 in
theorem orderPMF (a b c : ByteArray) (w : World) (la : (a.size : Int) ≤ 200) (lb : (b.size : Int) ≤ 200) (lc : (c.size : Int) ≤ 200) (Z : Int) (_hz : Z ≤ 1) (hne : (a.toList == b.toList) = false) (u2 : Bool)
    (hab : ∀ W, Calls Tryd.prog 28 #[.string a, .string b] W (Bel (.tuple #[.int .i64 1, .int .i64 0]) W)) (hbc : ∀ W, Calls Tryd.prog 28 #[.string b, .string c] W (Bel (.tuple #[.int .i64 (-1), .int .i64 0]) W))
    (hac : ∀ W, Calls Tryd.prog 28 #[.string a, .string c] W (Bel (.tuple #[.int .i64 Z, .int .i64 0]) W)) (hba : ∀ W, Calls Tryd.prog 28 #[.string b, .string a] W (Bel (.tuple #[.int .i64 (-1), .int .i64 0]) W))
    (uac : ∀ W, Calls Tryd.prog 29 #[.string a, .string c] W (Bel (.tuple #[.bool false, .int .i64 0]) W)) (uab : ∀ W, Calls Tryd.prog 29 #[.string a, .string b] W (Bel (.tuple #[.bool u2, .int .i64 0]) W)) :
    Calls Tryd.prog 7 #[.string a, .string b, .string c] w (Bel (.bool true) w) := by
  have Hk := Lib.hid known_any
  have Hhab := Lib.hid hab
  have Hhbc := Lib.hid hbc
  have Hhac := Lib.hid hac
  have Hhba := Lib.hid hba
  have Huac := Lib.hid uac
  have Huab := Lib.hid uab
  clear hab hbc hac hba uac uab
  go_enter Tryd.func7, Tryd.ntmps7
  go_wp2_with fail
  refine (Hk.out _).mono ?_
  rintro e W1 ⟨rfl, hb1⟩
  go_wp2_with fail
  refine (Hhab.out _).mono ?_
  rintro e W2 ⟨rfl, hb2⟩
  have hc2 := bel3 hb1 hb2
  clear hb2 hb1
  go_wp2_with fail
  refine (Hhbc.out _).mono ?_
  rintro e W3 ⟨rfl, hb3⟩
  have hc3 := bel3 hc2 hb3
  clear hb3 hc2
  go_wp2_with fail
  refine (Hhac.out _).mono ?_
  rintro e W4 ⟨rfl, hb4⟩
  have hc4 := bel3 hc3 hb4
  clear hb4 hc3
  go_wp2_with fail
  refine (Hhba.out _).mono ?_
  rintro e W5 ⟨rfl, hb5⟩
  have hc5 := bel3 hc4 hb5
  clear hb5 hc4
  go_wp2_with fail
  refine (Huac.out _).mono ?_
  rintro e W6 ⟨rfl, hb6⟩
  have hc6 := bel3 hc5 hb6
  clear hb6 hc5
  go_wp2_with fail
  refine (Huab.out _).mono ?_
  rintro e W7 ⟨rfl, hb7⟩
  have hc7 := bel3 hc6 hb7
  clear hb7 hc6
  go_wp2
  go_ret
  exact ⟨rfl, hc7⟩

set_option maxHeartbeats 1000000 in
set_option maxRecDepth 100000 in
theorem orderPMT (a b c : ByteArray) (w : World) (la : (a.size : Int) ≤ 200) (lb : (b.size : Int) ≤ 200) (lc : (c.size : Int) ≤ 200) (Z : Int) (_hz : Z ≤ 1) (hne : (a.toList == b.toList) = false) (u2 : Bool)
    (hab : ∀ W, Calls Tryd.prog 28 #[.string a, .string b] W (Bel (.tuple #[.int .i64 1, .int .i64 0]) W)) (hbc : ∀ W, Calls Tryd.prog 28 #[.string b, .string c] W (Bel (.tuple #[.int .i64 (-1), .int .i64 0]) W))
    (hac : ∀ W, Calls Tryd.prog 28 #[.string a, .string c] W (Bel (.tuple #[.int .i64 Z, .int .i64 0]) W)) (hba : ∀ W, Calls Tryd.prog 28 #[.string b, .string a] W (Bel (.tuple #[.int .i64 (-1), .int .i64 0]) W))
    (uac : ∀ W, Calls Tryd.prog 29 #[.string a, .string c] W (Bel (.tuple #[.bool true, .int .i64 0]) W)) (uab : ∀ W, Calls Tryd.prog 29 #[.string a, .string b] W (Bel (.tuple #[.bool u2, .int .i64 0]) W)) :
    Calls Tryd.prog 7 #[.string a, .string b, .string c] w (Bel (.bool true) w) := by
  have Hk := Lib.hid known_any
  have Hhab := Lib.hid hab
  have Hhbc := Lib.hid hbc
  have Hhac := Lib.hid hac
  have Hhba := Lib.hid hba
  have Huac := Lib.hid uac
  have Huab := Lib.hid uab
  clear hab hbc hac hba uac uab
  go_enter Tryd.func7, Tryd.ntmps7
  go_wp2_with fail
  refine (Hk.out _).mono ?_
  rintro e W1 ⟨rfl, hb1⟩
  go_wp2_with fail
  refine (Hhab.out _).mono ?_
  rintro e W2 ⟨rfl, hb2⟩
  have hc2 := bel3 hb1 hb2
  clear hb2 hb1
  go_wp2_with fail
  refine (Hhbc.out _).mono ?_
  rintro e W3 ⟨rfl, hb3⟩
  have hc3 := bel3 hc2 hb3
  clear hb3 hc2
  go_wp2_with fail
  refine (Hhac.out _).mono ?_
  rintro e W4 ⟨rfl, hb4⟩
  have hc4 := bel3 hc3 hb4
  clear hb4 hc3
  go_wp2_with fail
  refine (Hhba.out _).mono ?_
  rintro e W5 ⟨rfl, hb5⟩
  have hc5 := bel3 hc4 hb5
  clear hb5 hc4
  go_wp2_with fail
  refine (Huac.out _).mono ?_
  rintro e W6 ⟨rfl, hb6⟩
  have hc6 := bel3 hc5 hb6
  clear hb6 hc5
  go_wp2_with fail
  refine (Huab.out _).mono ?_
  rintro e W7 ⟨rfl, hb7⟩
  have hc7 := bel3 hc6 hb7
  clear hb7 hc6
  go_wp2
  go_ret
  exact ⟨rfl, hc7⟩

set_option maxHeartbeats 1000000 in
set_option maxRecDepth 100000 in
theorem orderPOF (a b c : ByteArray) (w : World) (la : (a.size : Int) ≤ 200) (lb : (b.size : Int) ≤ 200) (lc : (c.size : Int) ≤ 200) (Z : Int) (_hz : Z ≤ 1) (hne : (a.toList == b.toList) = false) (u2 : Bool)
    (hab : ∀ W, Calls Tryd.prog 28 #[.string a, .string b] W (Bel (.tuple #[.int .i64 1, .int .i64 0]) W)) (hbc : ∀ W, Calls Tryd.prog 28 #[.string b, .string c] W (Bel (.tuple #[.int .i64 0, .int .i64 0]) W))
    (hac : ∀ W, Calls Tryd.prog 28 #[.string a, .string c] W (Bel (.tuple #[.int .i64 Z, .int .i64 0]) W)) (hba : ∀ W, Calls Tryd.prog 28 #[.string b, .string a] W (Bel (.tuple #[.int .i64 (-1), .int .i64 0]) W))
    (uac : ∀ W, Calls Tryd.prog 29 #[.string a, .string c] W (Bel (.tuple #[.bool false, .int .i64 0]) W)) (uab : ∀ W, Calls Tryd.prog 29 #[.string a, .string b] W (Bel (.tuple #[.bool u2, .int .i64 0]) W)) :
    Calls Tryd.prog 7 #[.string a, .string b, .string c] w (Bel (.bool true) w) := by
  have Hk := Lib.hid known_any
  have Hhab := Lib.hid hab
  have Hhbc := Lib.hid hbc
  have Hhac := Lib.hid hac
  have Hhba := Lib.hid hba
  have Huac := Lib.hid uac
  have Huab := Lib.hid uab
  clear hab hbc hac hba uac uab
  go_enter Tryd.func7, Tryd.ntmps7
  go_wp2_with fail
  refine (Hk.out _).mono ?_
  rintro e W1 ⟨rfl, hb1⟩
  go_wp2_with fail
  refine (Hhab.out _).mono ?_
  rintro e W2 ⟨rfl, hb2⟩
  have hc2 := bel3 hb1 hb2
  clear hb2 hb1
  go_wp2_with fail
  refine (Hhbc.out _).mono ?_
  rintro e W3 ⟨rfl, hb3⟩
  have hc3 := bel3 hc2 hb3
  clear hb3 hc2
  go_wp2_with fail
  refine (Hhac.out _).mono ?_
  rintro e W4 ⟨rfl, hb4⟩
  have hc4 := bel3 hc3 hb4
  clear hb4 hc3
  go_wp2_with fail
  refine (Hhba.out _).mono ?_
  rintro e W5 ⟨rfl, hb5⟩
  have hc5 := bel3 hc4 hb5
  clear hb5 hc4
  go_wp2_with fail
  refine (Huac.out _).mono ?_
  rintro e W6 ⟨rfl, hb6⟩
  have hc6 := bel3 hc5 hb6
  clear hb6 hc5
  go_wp2_with fail
  refine (Huab.out _).mono ?_
  rintro e W7 ⟨rfl, hb7⟩
  have hc7 := bel3 hc6 hb7
  clear hb7 hc6
  go_wp2
  go_ret
  exact ⟨rfl, hc7⟩

set_option maxHeartbeats 1000000 in
set_option maxRecDepth 100000 in
theorem orderPOT (a b c : ByteArray) (w : World) (la : (a.size : Int) ≤ 200) (lb : (b.size : Int) ≤ 200) (lc : (c.size : Int) ≤ 200) (Z : Int) (_hz : Z ≤ 1) (hne : (a.toList == b.toList) = false) (u2 : Bool)
    (hab : ∀ W, Calls Tryd.prog 28 #[.string a, .string b] W (Bel (.tuple #[.int .i64 1, .int .i64 0]) W)) (hbc : ∀ W, Calls Tryd.prog 28 #[.string b, .string c] W (Bel (.tuple #[.int .i64 0, .int .i64 0]) W))
    (hac : ∀ W, Calls Tryd.prog 28 #[.string a, .string c] W (Bel (.tuple #[.int .i64 Z, .int .i64 0]) W)) (hba : ∀ W, Calls Tryd.prog 28 #[.string b, .string a] W (Bel (.tuple #[.int .i64 (-1), .int .i64 0]) W))
    (uac : ∀ W, Calls Tryd.prog 29 #[.string a, .string c] W (Bel (.tuple #[.bool true, .int .i64 0]) W)) (uab : ∀ W, Calls Tryd.prog 29 #[.string a, .string b] W (Bel (.tuple #[.bool u2, .int .i64 0]) W)) :
    Calls Tryd.prog 7 #[.string a, .string b, .string c] w (Bel (.bool true) w) := by
  have Hk := Lib.hid known_any
  have Hhab := Lib.hid hab
  have Hhbc := Lib.hid hbc
  have Hhac := Lib.hid hac
  have Hhba := Lib.hid hba
  have Huac := Lib.hid uac
  have Huab := Lib.hid uab
  clear hab hbc hac hba uac uab
  go_enter Tryd.func7, Tryd.ntmps7
  go_wp2_with fail
  refine (Hk.out _).mono ?_
  rintro e W1 ⟨rfl, hb1⟩
  go_wp2_with fail
  refine (Hhab.out _).mono ?_
  rintro e W2 ⟨rfl, hb2⟩
  have hc2 := bel3 hb1 hb2
  clear hb2 hb1
  go_wp2_with fail
  refine (Hhbc.out _).mono ?_
  rintro e W3 ⟨rfl, hb3⟩
  have hc3 := bel3 hc2 hb3
  clear hb3 hc2
  go_wp2_with fail
  refine (Hhac.out _).mono ?_
  rintro e W4 ⟨rfl, hb4⟩
  have hc4 := bel3 hc3 hb4
  clear hb4 hc3
  go_wp2_with fail
  refine (Hhba.out _).mono ?_
  rintro e W5 ⟨rfl, hb5⟩
  have hc5 := bel3 hc4 hb5
  clear hb5 hc4
  go_wp2_with fail
  refine (Huac.out _).mono ?_
  rintro e W6 ⟨rfl, hb6⟩
  have hc6 := bel3 hc5 hb6
  clear hb6 hc5
  go_wp2_with fail
  refine (Huab.out _).mono ?_
  rintro e W7 ⟨rfl, hb7⟩
  have hc7 := bel3 hc6 hb7
  clear hb7 hc6
  go_wp2
  go_ret
  exact ⟨rfl, hc7⟩

set_option maxHeartbeats 1000000 in
set_option maxRecDepth 100000 in
theorem orderPPF (a b c : ByteArray) (w : World) (la : (a.size : Int) ≤ 200) (lb : (b.size : Int) ≤ 200) (lc : (c.size : Int) ≤ 200) (Z : Int) (_hz : Z ≤ 1) (hne : (a.toList == b.toList) = false) (u2 : Bool)
    (hab : ∀ W, Calls Tryd.prog 28 #[.string a, .string b] W (Bel (.tuple #[.int .i64 1, .int .i64 0]) W)) (hbc : ∀ W, Calls Tryd.prog 28 #[.string b, .string c] W (Bel (.tuple #[.int .i64 1, .int .i64 0]) W))
    (hac : ∀ W, Calls Tryd.prog 28 #[.string a, .string c] W (Bel (.tuple #[.int .i64 Z, .int .i64 0]) W)) (hba : ∀ W, Calls Tryd.prog 28 #[.string b, .string a] W (Bel (.tuple #[.int .i64 (-1), .int .i64 0]) W))
    (uac : ∀ W, Calls Tryd.prog 29 #[.string a, .string c] W (Bel (.tuple #[.bool false, .int .i64 0]) W)) (uab : ∀ W, Calls Tryd.prog 29 #[.string a, .string b] W (Bel (.tuple #[.bool u2, .int .i64 0]) W)) :
    Calls Tryd.prog 7 #[.string a, .string b, .string c] w (Bel (.bool true) w) := by
  have Hk := Lib.hid known_any
  have Hhab := Lib.hid hab
  have Hhbc := Lib.hid hbc
  have Hhac := Lib.hid hac
  have Hhba := Lib.hid hba
  have Huac := Lib.hid uac
  have Huab := Lib.hid uab
  clear hab hbc hac hba uac uab
  go_enter Tryd.func7, Tryd.ntmps7
  go_wp2_with fail
  refine (Hk.out _).mono ?_
  rintro e W1 ⟨rfl, hb1⟩
  go_wp2_with fail
  refine (Hhab.out _).mono ?_
  rintro e W2 ⟨rfl, hb2⟩
  have hc2 := bel3 hb1 hb2
  clear hb2 hb1
  go_wp2_with fail
  refine (Hhbc.out _).mono ?_
  rintro e W3 ⟨rfl, hb3⟩
  have hc3 := bel3 hc2 hb3
  clear hb3 hc2
  go_wp2_with fail
  refine (Hhac.out _).mono ?_
  rintro e W4 ⟨rfl, hb4⟩
  have hc4 := bel3 hc3 hb4
  clear hb4 hc3
  go_wp2_with fail
  refine (Hhba.out _).mono ?_
  rintro e W5 ⟨rfl, hb5⟩
  have hc5 := bel3 hc4 hb5
  clear hb5 hc4
  go_wp2_with fail
  refine (Huac.out _).mono ?_
  rintro e W6 ⟨rfl, hb6⟩
  have hc6 := bel3 hc5 hb6
  clear hb6 hc5
  go_wp2_with fail
  refine (Huab.out _).mono ?_
  rintro e W7 ⟨rfl, hb7⟩
  have hc7 := bel3 hc6 hb7
  clear hb7 hc6
  go_wp2
  go_ret
  exact ⟨rfl, hc7⟩

set_option maxHeartbeats 1000000 in
set_option maxRecDepth 100000 in
theorem orderPPT (a b c : ByteArray) (w : World) (la : (a.size : Int) ≤ 200) (lb : (b.size : Int) ≤ 200) (lc : (c.size : Int) ≤ 200) (Z : Int) (_hz : Z ≤ 1) (hne : (a.toList == b.toList) = false) (u2 : Bool)
    (hab : ∀ W, Calls Tryd.prog 28 #[.string a, .string b] W (Bel (.tuple #[.int .i64 1, .int .i64 0]) W)) (hbc : ∀ W, Calls Tryd.prog 28 #[.string b, .string c] W (Bel (.tuple #[.int .i64 1, .int .i64 0]) W))
    (hac : ∀ W, Calls Tryd.prog 28 #[.string a, .string c] W (Bel (.tuple #[.int .i64 Z, .int .i64 0]) W)) (hba : ∀ W, Calls Tryd.prog 28 #[.string b, .string a] W (Bel (.tuple #[.int .i64 (-1), .int .i64 0]) W))
    (uac : ∀ W, Calls Tryd.prog 29 #[.string a, .string c] W (Bel (.tuple #[.bool true, .int .i64 0]) W)) (uab : ∀ W, Calls Tryd.prog 29 #[.string a, .string b] W (Bel (.tuple #[.bool u2, .int .i64 0]) W)) :
    Calls Tryd.prog 7 #[.string a, .string b, .string c] w (Bel (.bool true) w) := by
  have Hk := Lib.hid known_any
  have Hhab := Lib.hid hab
  have Hhbc := Lib.hid hbc
  have Hhac := Lib.hid hac
  have Hhba := Lib.hid hba
  have Huac := Lib.hid uac
  have Huab := Lib.hid uab
  clear hab hbc hac hba uac uab
  go_enter Tryd.func7, Tryd.ntmps7
  go_wp2_with fail
  refine (Hk.out _).mono ?_
  rintro e W1 ⟨rfl, hb1⟩
  go_wp2_with fail
  refine (Hhab.out _).mono ?_
  rintro e W2 ⟨rfl, hb2⟩
  have hc2 := bel3 hb1 hb2
  clear hb2 hb1
  go_wp2_with fail
  refine (Hhbc.out _).mono ?_
  rintro e W3 ⟨rfl, hb3⟩
  have hc3 := bel3 hc2 hb3
  clear hb3 hc2
  go_wp2_with fail
  refine (Hhac.out _).mono ?_
  rintro e W4 ⟨rfl, hb4⟩
  have hc4 := bel3 hc3 hb4
  clear hb4 hc3
  go_wp2_with fail
  refine (Hhba.out _).mono ?_
  rintro e W5 ⟨rfl, hb5⟩
  have hc5 := bel3 hc4 hb5
  clear hb5 hc4
  go_wp2_with fail
  refine (Huac.out _).mono ?_
  rintro e W6 ⟨rfl, hb6⟩
  have hc6 := bel3 hc5 hb6
  clear hb6 hc5
  go_wp2_with fail
  refine (Huab.out _).mono ?_
  rintro e W7 ⟨rfl, hb7⟩
  have hc7 := bel3 hc6 hb7
  clear hb7 hc6
  go_wp2
  go_ret
  exact ⟨rfl, hc7⟩

set_option maxHeartbeats 1000000 in
set_option maxRecDepth 100000 in
theorem order_bad (a b c : ByteArray) (w : World) (la : (a.size : Int) ≤ 200) (lb : (b.size : Int) ≤ 200) (lc : (c.size : Int) ≤ 200) (X Y Z V e1 e2 e3 e4 : Int)
    (hab : ∀ W, Calls Tryd.prog 28 #[.string a, .string b] W (Bel (.tuple #[.int .i64 X, .int .i64 e1]) W)) (hbc : ∀ W, Calls Tryd.prog 28 #[.string b, .string c] W (Bel (.tuple #[.int .i64 Y, .int .i64 e2]) W))
    (hac : ∀ W, Calls Tryd.prog 28 #[.string a, .string c] W (Bel (.tuple #[.int .i64 Z, .int .i64 e3]) W)) (hba : ∀ W, Calls Tryd.prog 28 #[.string b, .string a] W (Bel (.tuple #[.int .i64 V, .int .i64 e4]) W))
    (he : e1 = 10 ∨ (e1 = 0 ∧ e2 = 10)) : Calls Tryd.prog 7 #[.string a, .string b, .string c] w (Bel (.bool true) w) := by
  have Hk := Lib.hid known_any
  have Hhab := Lib.hid hab
  have Hhbc := Lib.hid hbc
  have Hhac := Lib.hid hac
  have Hhba := Lib.hid hba
  clear hab hbc hac hba
  rcases he with rfl | ⟨rfl, rfl⟩
  · go_enter Tryd.func7, Tryd.ntmps7
    go_wp2_with fail
    refine (Hk.out _).mono ?_
    rintro e W1 ⟨rfl, hb1⟩
    go_wp2_with fail
    refine (Hhab.out _).mono ?_
    rintro e W2 ⟨rfl, hb2⟩
    have hc2 := bel3 hb1 hb2
    clear hb2 hb1
    go_wp2_with fail
    refine (Hhbc.out _).mono ?_
    rintro e W3 ⟨rfl, hb3⟩
    have hc3 := bel3 hc2 hb3
    clear hb3 hc2
    go_wp2_with fail
    refine (Hhac.out _).mono ?_
    rintro e W4 ⟨rfl, hb4⟩
    have hc4 := bel3 hc3 hb4
    clear hb4 hc3
    go_wp2_with fail
    refine (Hhba.out _).mono ?_
    rintro e W5 ⟨rfl, hb5⟩
    have hc5 := bel3 hc4 hb5
    clear hb5 hc4
    go_wp2_with fail
    refine (Hk.out _).mono ?_
    rintro e W6 ⟨rfl, hb6⟩
    have hc6 := bel3 hc5 hb6
    clear hb6 hc5
    go_wp2
    go_ret
    exact ⟨rfl, hc6⟩
  · go_enter Tryd.func7, Tryd.ntmps7
    go_wp2_with fail
    refine (Hk.out _).mono ?_
    rintro e W1 ⟨rfl, hb1⟩
    go_wp2_with fail
    refine (Hhab.out _).mono ?_
    rintro e W2 ⟨rfl, hb2⟩
    have hc2 := bel3 hb1 hb2
    clear hb2 hb1
    go_wp2_with fail
    refine (Hhbc.out _).mono ?_
    rintro e W3 ⟨rfl, hb3⟩
    have hc3 := bel3 hc2 hb3
    clear hb3 hc2
    go_wp2_with fail
    refine (Hhac.out _).mono ?_
    rintro e W4 ⟨rfl, hb4⟩
    have hc4 := bel3 hc3 hb4
    clear hb4 hc3
    go_wp2_with fail
    refine (Hhba.out _).mono ?_
    rintro e W5 ⟨rfl, hb5⟩
    have hc5 := bel3 hc4 hb5
    clear hb5 hc4
    go_wp2_with fail
    refine (Hk.out _).mono ?_
    rintro e W6 ⟨rfl, hb6⟩
    have hc6 := bel3 hc5 hb6
    clear hb6 hc5
    go_wp2
    go_ret
    exact ⟨rfl, hc6⟩
end Go.Proofs.YtfcfooipoiomkaaDoor
