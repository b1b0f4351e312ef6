/- The drawn table of helpers; a drawn command. -/
import Derived.Test.YteiphphihclnfaaDoorHE
namespace Go.Proofs.YteiphphihclnfaaDoor
open Go.RowKit Go.Shelf
open Go.Proofs.YteiphphihclnfaaDoor.Nm
/-- The helpers that are drawn from. -/
def allH : List Hp := [⟨[112, 114, 111, 98, 101, 32, 115, 100, 42], [111, 110, 101, 32, 116, 119, 111, 59, 73, 68, 95, 65, 61, 49, 59, 73, 68, 95, 66, 61, 120, 32, 121], false, 2⟩, ⟨[112, 114, 111, 98, 101, 32, 42], [73, 68, 95, 65, 61, 55], true, 1⟩, ⟨[115, 99, 97, 110, 32, 63], [73, 68, 95, 70, 83, 95, 85, 85, 73, 68, 61, 117, 57, 59, 68, 82, 73, 86, 69, 82, 61, 110, 111, 59, 98, 97, 100], false, 3⟩, ⟨[101, 110, 118], [73, 68, 95, 66, 61, 50, 59, 73, 68, 95, 67, 61, 51], false, 0⟩, ⟨[115, 108, 111, 119, 42], [108, 97, 116, 101], false, 50⟩, ⟨[97, 99, 116, 32, 42, 124, 108, 111, 103], [100, 111, 110, 101], false, 1⟩]
/-- A drawn table: what is known of its helpers. -/
def DrawnH (L : List Hp) : Prop := L.length ≤ 6 ∧ ∀ x ∈ L, SmH x ∧ 0 ≤ x.ticks ∧ x.ticks ≤ 50
theorem allH_ok : ∀ x ∈ allH, SmH x ∧ 0 ≤ x.ticks ∧ x.ticks ≤ 50 := by
  intro x hx
  simp only [allH, List.mem_cons, List.not_mem_nil, or_false] at hx
  rcases hx with rfl | rfl | rfl | rfl | rfl | rfl <;> exact ⟨⟨by decide, by decide⟩, by decide, by decide⟩
theorem Tp.own {α : Type} {r : RT α} {w w' : World} {tb k B : Nat} {v : Value} {l : List α} (h : Tp w tb k) (hown : r.Own w B v l) (hB : tb < B) (hg : w.grownBy w' v.ownBlock) : Tp w' tb k :=
  h.keep fun b hb => hg.block b (Nat.lt_of_le_of_lt hb h.lt) (fun e => by have := (hown.ge b e.symm).1; omega)
theorem kp_ownS {α : Type} {r : RT α} {S : List Nat} {w0 w w' : World} {B : Nat} {v : Value} {l : List α} (h : Kp S w0 w) (hown : r.Own w B v l) (hB : w0.heap.size ≤ B) (hg : w.grownBy w' v.ownBlock) : Kp S w0 w' :=
  ⟨hg.os.trans h.os, hg.tape.trans h.tape, hg.output.trans h.output, Nat.le_trans h.size hg.size, fun k hk hs => (hg.block k (Nat.lt_of_lt_of_le hk h.size) (fun e => by have := (hown.ge k e.symm).1; omega)).trans (h.block k hk hs)⟩
theorem RT.Own.kpt {α : Type} {r : RT α} {w w' : World} {B tb : Nat} {v : Value} {l : List α} (h : r.Own w B v l) (hk : Kp [tb] w w') (hB : tb < B) : r.Own w' B v l :=
  h.kp hk fun b hb => by have := (h.ge b hb).1; simp; omega
set_option maxHeartbeats 8000000 in
set_option maxRecDepth 100000 in
theorem helpers_any {w : World} {tb k : Nat} (hk : k ≤ 100000) (ht : Tp w tb k) :
    Calls Tryd.prog 10 #[.pointer (some ⟨tb, 0, none⟩)] w fun e w' => ∃ (v : Value) (L : List Hp) (lim : Int), e = .returned (.tuple #[v, .int .i64 lim]) ∧ hpT.Own w' w.heap.size v L ∧ DrawnH L ∧ 1 ≤ lim ∧ lim ≤ 60 ∧ Tp w' tb (k + 7) ∧ Kp [tb] w w' := by
  have htb := ht.lt
  obtain ⟨A, hA⟩ : ∃ A, w.heap.size = A := ⟨_, rfl⟩
  obtain ⟨w1, hw1⟩ : ∃ w1, w.alloc (.cells #[.string ⟨#[112, 114, 111, 98, 101, 32, 115, 100, 42]⟩, .string ⟨#[111, 110, 101, 32, 116, 119, 111, 59, 73, 68, 95, 65, 61, 49, 59, 73, 68, 95, 66, 61, 120, 32, 121]⟩, .bool false, .int .i64 2, .string ⟨#[112, 114, 111, 98, 101, 32, 42]⟩, .string ⟨#[73, 68, 95, 65, 61, 55]⟩, .bool true, .int .i64 1, .string ⟨#[115, 99, 97, 110, 32, 63]⟩, .string ⟨#[73, 68, 95, 70, 83, 95, 85, 85, 73, 68, 61, 117, 57, 59, 68, 82, 73, 86, 69, 82, 61, 110, 111, 59, 98, 97, 100]⟩, .bool false, .int .i64 3, .string ⟨#[101, 110, 118]⟩, .string ⟨#[73, 68, 95, 66, 61, 50, 59, 73, 68, 95, 67, 61, 51]⟩, .bool false, .int .i64 0, .string ⟨#[115, 108, 111, 119, 42]⟩, .string ⟨#[108, 97, 116, 101]⟩, .bool false, .int .i64 50, .string ⟨#[97, 99, 116, 32, 42, 124, 108, 111, 103]⟩, .string ⟨#[100, 111, 110, 101]⟩, .bool false, .int .i64 1] 33) = w1 := ⟨_, rfl⟩
  have hk1 : Kp [] w w1 := by rw [← hw1]; exact (Kp.refl [] w).alloc _
  have hz1 : w1.heap.size = A + 1 := by rw [← hw1, ← hA]; simp
  have hb1 : w1.heap[A]? = some (.cells #[.string ⟨#[112, 114, 111, 98, 101, 32, 115, 100, 42]⟩, .string ⟨#[111, 110, 101, 32, 116, 119, 111, 59, 73, 68, 95, 65, 61, 49, 59, 73, 68, 95, 66, 61, 120, 32, 121]⟩, .bool false, .int .i64 2, .string ⟨#[112, 114, 111, 98, 101, 32, 42]⟩, .string ⟨#[73, 68, 95, 65, 61, 55]⟩, .bool true, .int .i64 1, .string ⟨#[115, 99, 97, 110, 32, 63]⟩, .string ⟨#[73, 68, 95, 70, 83, 95, 85, 85, 73, 68, 61, 117, 57, 59, 68, 82, 73, 86, 69, 82, 61, 110, 111, 59, 98, 97, 100]⟩, .bool false, .int .i64 3, .string ⟨#[101, 110, 118]⟩, .string ⟨#[73, 68, 95, 66, 61, 50, 59, 73, 68, 95, 67, 61, 51]⟩, .bool false, .int .i64 0, .string ⟨#[115, 108, 111, 119, 42]⟩, .string ⟨#[108, 97, 116, 101]⟩, .bool false, .int .i64 50, .string ⟨#[97, 99, 116, 32, 42, 124, 108, 111, 103]⟩, .string ⟨#[100, 111, 110, 101]⟩, .bool false, .int .i64 1] 33) := by rw [← hw1, ← hA]; exact heap_alloc_last w _
  have hr1 : hpT.Row w1 A 0 allH := RT.row_of (r := hpT) (cur := [.string ⟨#[112, 114, 111, 98, 101, 32, 115, 100, 42]⟩, .string ⟨#[111, 110, 101, 32, 116, 119, 111, 59, 73, 68, 95, 65, 61, 49, 59, 73, 68, 95, 66, 61, 120, 32, 121]⟩, .bool false, .int .i64 2, .string ⟨#[112, 114, 111, 98, 101, 32, 42]⟩, .string ⟨#[73, 68, 95, 65, 61, 55]⟩, .bool true, .int .i64 1, .string ⟨#[115, 99, 97, 110, 32, 63]⟩, .string ⟨#[73, 68, 95, 70, 83, 95, 85, 85, 73, 68, 61, 117, 57, 59, 68, 82, 73, 86, 69, 82, 61, 110, 111, 59, 98, 97, 100]⟩, .bool false, .int .i64 3, .string ⟨#[101, 110, 118]⟩, .string ⟨#[73, 68, 95, 66, 61, 50, 59, 73, 68, 95, 67, 61, 51]⟩, .bool false, .int .i64 0, .string ⟨#[115, 108, 111, 119, 42]⟩, .string ⟨#[108, 97, 116, 101]⟩, .bool false, .int .i64 50, .string ⟨#[97, 99, 116, 32, 42, 124, 108, 111, 103]⟩, .string ⟨#[100, 111, 110, 101]⟩, .bool false, .int .i64 1]) hb1 rfl
  have ht1 : Tp w1 tb k := ht.kp hk1 (by simp)
  have HROW := Lib.hid fun W (h : Kp [tb] w1 W) (j : Nat) (x : Hp) (hx : allH[j]? = some x) => show W.cell? ⟨A, j * 4, none⟩ = some (.string (bs x.cmd)) ∧ W.cell? ⟨A, j * 4 + 1, none⟩ = some (.string (bs x.out)) ∧ W.cell? ⟨A, j * 4 + 2, none⟩ = some (.bool x.fails) ∧ W.cell? ⟨A, j * 4 + 3, none⟩ = some (.int .i64 x.ticks) from by
    have := hpRow (hr1.keep (h.block A (by omega) (by simp; omega))) hx
    simpa only [Nat.zero_add] using this
  have HK1 := Lib.hid (hk1.mono (t := [tb]) (by simp))
  have HT1 := Lib.hid ht1
  have hAt : tb < A := by omega
  have HA := Lib.hid hA
  have HZ1 := Lib.hid hz1
  rw [hA]
  clear hk1 hb1 hr1 ht1 ht htb hz1
  go_enter Tryd.func10, Tryd.ntmps10
  go_wp2
  go_loopg [5, 6] 6 (fun g s5 s6 wx => ∃ (i : Nat) (L : List Hp), s6 = .int .i64 (i : Int) ∧ hpT.Own wx (A + 1) s5 L ∧ (∀ x ∈ L, x ∈ allH) ∧ L.length ≤ i ∧ i + g = 6 ∧ Tp wx tb (k + i) ∧ Kp [tb] w1 wx)
  case atStart => exact ⟨0, [], rfl, RT.Own.nil _ _ _, by simp, by simp, rfl, HT1.out, Kp.refl _ _⟩
  case round =>
    obtain ⟨i, L, rfl, hown, hmem, hlen, hig, htp, hkp⟩ := hrel
    by_cases hi : i < 6
    · obtain ⟨g, rfl⟩ : ∃ g, gk = g + 1 := ⟨gk - 1, by omega⟩
      obtain ⟨x, hx⟩ : ∃ x, allH[i]? = some x := ⟨_, List.getElem?_eq_getElem (show i < allH.length from hi)⟩
      have hiz : (i : Int) < 6 := by omega
      have hwi : IntKind.i64.wrap ((i : Int) + 1) = ((i + 1 : Nat) : Int) := by rw [IntKind.wrap_i64]; omega
      have HN := Lib.hid (show Calls Tryd.prog 11 #[.pointer (some ⟨tb, 0, none⟩), .int .i64 5] wr fun e w' => ∃ r : Nat, r < 5 ∧ e = .returned (.int .i64 r) ∧ Tp w' tb (k + i + 1) ∧ Kp [tb] wr w' from next_kp 5 (by decide) (by decide) (by omega) htp)
      have HOWN := Lib.hid hown
      have HM := Lib.hid hmem
      have HK := Lib.hid hkp
      have HX := Lib.hid hx
      have HI := Lib.hid hig
      have hpl : L.length ≤ 1000000 := by omega
      have HL := Lib.hid hlen
      clear hown hmem hkp hx hig htp hlen
      go_wp2_with (first
        | (go_at_call 11; refine Calls.mono (by with_reducible exact HN.out) ?_; rintro e w2 ⟨r, hr5, rfl, ht2, hk2⟩; have HT2 := Lib.hid ht2; have HK2 := Lib.hid (HK.out.trans hk2); have HOWN2 := Lib.hid (HOWN.out.kpt hk2 (by omega)); obtain ⟨c0, c1, c2, c3⟩ := HROW.out _ HK2.out i x HX.out; obtain ⟨w4, hw4⟩ : ∃ w4, w2.alloc (.cells #[.string (bs x.cmd), .string (bs x.out), .bool x.fails, .int .i64 x.ticks] 33) = w4 := ⟨_, rfl⟩; obtain ⟨E, hE⟩ : ∃ E, w2.heap.size = E := ⟨_, rfl⟩; have HE := Lib.hid (show w4.rangeAt E 0 (hpT.cf x) from fun m u hu => (by rw [← hw4, ← hE, cell_of_row _ _ _ _ _ _ (heap_alloc_last w2 _), Nat.zero_add]; simpa [hpT, hpC] using hu)); have HK4 := Lib.hid (show Kp [] w2 w4 from (by rw [← hw4]; exact (Kp.refl [] w2).alloc _)); clear ht2 hk2)
        | (at_builtin; refine wpList_append_r (r := hpT) rfl _ _ rfl (A + 1) _ L rfl (HOWN2.out.kp0 HK4.out) E 1 x rfl HE.out hpl (by have h1 := HK4.out.size; have h2 := HK2.out.size; have h3 := HZ1.out; omega) ?_; intro v1 w5 hown1 hg1; have HOWN1 := Lib.hid hown1; have HT5 := Lib.hid ((HT2.out.kp HK4.out (by simp)).own (HOWN2.out.kp0 HK4.out) (by omega) hg1); have HK5 := Lib.hid (kp_ownS (HK2.out.trans (HK4.out.mono (by simp))) (HOWN2.out.kp0 HK4.out) (by have h3 := HZ1.out; omega) hg1); clear hown1 hg1))
      all_goals go_roundg g
      all_goals first
        | omega
        | exact ⟨i + 1, L ++ [x], rfl, HOWN1.out, fun y hy => by rcases List.mem_append.1 hy with h | h; exact HM.out y h; rw [List.mem_singleton.1 h]; exact List.mem_of_getElem? HX.out, by rw [List.length_append, List.length_singleton]; have := HL.out; omega, by have := HI.out; omega, HT5.out, HK5.out⟩
        | exact ⟨i + 1, L, rfl, HOWN2.out, HM.out, by have := HL.out; omega, by have := HI.out; omega, HT2.out, HK2.out⟩
    · have hiz : ¬ ((i : Int) < 6) := by omega
      obtain rfl : i = 6 := by omega
      have HN := Lib.hid (show Calls Tryd.prog 11 #[.pointer (some ⟨tb, 0, none⟩), .int .i64 60] wr fun e w' => ∃ r : Nat, r < 60 ∧ e = .returned (.int .i64 r) ∧ Tp w' tb (k + 6 + 1) ∧ Kp [tb] wr w' from next_kp 60 (by decide) (by decide) (by omega) htp)
      have HOWN := Lib.hid hown
      have HM := Lib.hid hmem
      have HK := Lib.hid hkp
      have HL := Lib.hid hlen
      clear hown hmem hkp hig htp hlen
      go_wp2_with (go_at_call 11; refine Calls.mono (by with_reducible exact HN.out) ?_; rintro e w2 ⟨r, hr5, rfl, ht2, hk2⟩; have HT2 := Lib.hid ht2; have HK2 := Lib.hid (HK.out.trans hk2); have HOWN2 := Lib.hid (HOWN.out.kpt hk2 (by omega)); have hwr : IntKind.i64.wrap (1 + (r : Int)) = 1 + (r : Int) := (by rw [IntKind.wrap_i64]; omega); clear ht2 hk2)
      go_ret2
      exact ⟨_, L, _, rfl, HOWN2.out.down (by omega), ⟨HL.out, fun x hx => allH_ok x (HM.out x hx)⟩, by omega, by omega, HT2.out, HK1.out.trans HK2.out⟩
set_option maxHeartbeats 4000000 in
set_option maxRecDepth 100000 in
theorem command_any {w : World} {tb k : Nat} (hk : k ≤ 1000000) (ht : Tp w tb k) :
    Calls Tryd.prog 15 #[.pointer (some ⟨tb, 0, none⟩)] w fun e w' => ∃ c : List UInt8, c.length ≤ 300 ∧ e = .returned (.string (bs c)) ∧ Tp w' tb (k + 1) ∧ Kp [tb] w w' := by
  obtain ⟨n, hn⟩ : ∃ n, w.heap.size = n := ⟨_, rfl⟩
  have HO := Lib.hid (show Calls Tryd.prog 12 #[.pointer (some ⟨tb, 0, none⟩), .slice (some ⟨n, 0, none⟩) 10 10] (w.alloc (.cells #[.string ⟨#[112, 114, 111, 98, 101, 32, 115, 100, 97]⟩, .string ⟨#[112, 114, 111, 98, 101, 32, 101, 116, 104, 48]⟩, .string ⟨#[115, 99, 97, 110, 32, 49]⟩, .string ⟨#[115, 99, 97, 110, 32, 50, 50]⟩, .string ⟨#[101, 110, 118]⟩, .string ⟨#[115, 108, 111, 119]⟩, .string ⟨#[97, 99, 116, 32, 120]⟩, .string ⟨#[108, 111, 103]⟩, .string ⟨#[110, 111, 110, 101]⟩, .string ⟨#[]⟩] 9)) fun e w' => ∃ x : List UInt8, x.length ≤ 300 ∧ e = .returned (.string (bs x)) ∧ Tp w' tb (k + 1) ∧ Kp [tb] w w' from by
    subst hn
    exact one_short [[112, 114, 111, 98, 101, 32, 115, 100, 97], [112, 114, 111, 98, 101, 32, 101, 116, 104, 48], [115, 99, 97, 110, 32, 49], [115, 99, 97, 110, 32, 50, 50], [101, 110, 118], [115, 108, 111, 119], [97, 99, 116, 32, 120], [108, 111, 103], [110, 111, 110, 101], []] (by decide) (by decide) hk ht (by decide))
  clear ht
  go_enter Tryd.func15, Tryd.ntmps15
  go_wp2_with (go_at_call 12; refine Calls.mono (by with_reducible exact HO.out) ?_; rintro e w1 ⟨c, hc, rfl, ht1, hk1⟩; have HT1 := Lib.hid ht1; have HK1 := Lib.hid hk1; clear ht1 hk1)
  go_ret
  exact ⟨c, hc, rfl, HT1.out, HK1.out⟩
end Go.Proofs.YteiphphihclnfaaDoor
