/- HelperJoins: the walk. -/
import Derived.Test.YteiphphihclnfaaDoorHE
import Derived.Deep.Upon
namespace Go.Proofs.YteiphphihclnfaaDoor
open Go.RowKit Go.Shelf
open Go.Proofs.YteiphphihclnfaaDoor.Nm
def RT.Any {α : Type} (r : RT α) (w : World) (v : Value) (l : List α) : Prop := (v = .slice none 0 0 ∧ l = []) ∨ ∃ b p c, v = .slice (some ⟨b, p, none⟩) l.length c ∧ r.Row w b p l
theorem RT.Own.any {α : Type} {r : RT α} {w : World} {B : Nat} {v : Value} {l : List α} (h : r.Own w B v l) : r.Any w v l := by
  rcases h.form2 with ⟨h1, h2⟩ | ⟨g, cap, h1, _, _, _, _, h2⟩
  · exact .inl ⟨h1, h2⟩
  · exact .inr ⟨g, 0, cap, h1, h2⟩
theorem RT.Row.all {α : Type} {r : RT α} : ∀ {l : List α} {w : World} {b o : Nat}, r.Row w b o l → ∀ (j : Nat) u, (r.cells l)[j]? = some u → w.cell? ⟨b, o + j, none⟩ = some u
  | [], w, b, o, h, j, u, hj => by simp [RT.cells] at hj
  | x :: l, w, b, o, h, j, u, hj => by
    rw [RT.cells_cons] at hj
    by_cases hlt : j < (r.cf x).length
    · rw [List.getElem?_append_left hlt] at hj
      have := h 0 x rfl j u hj
      rwa [Nat.zero_mul, Nat.add_zero] at this
    · rw [List.getElem?_append_right (by omega), r.len] at hj
      rw [r.len] at hlt
      have hrow : r.Row w b (o + r.sz) l := fun k y hk m v hv => by
        have := h (k + 1) y (by simpa using hk) m v hv
        rwa [Nat.add_mul, Nat.one_mul, show o + (k * r.sz + r.sz) = o + r.sz + k * r.sz by omega] at this
      have := RT.Row.all hrow (j - r.sz) u hj
      rwa [show o + r.sz + (j - r.sz) = o + j by omega] at this
theorem run_append_all {α : Type} {r : RT α} {w : World} {base : Nat} {v y : Value} {xs ys : List α} (ty : TypeId) (hown : r.Own w base v xs) (hy : r.Any w y ys) (hb1 : xs.length + ys.length ≤ 1000000) (hb : base ≤ w.heap.size) :
    ∃ v' w', (Builtin.append_ #[r.sl, r.sl] ty #[v, y]).run Tryd.prog w = .ok v' w' ∧ r.Own w' base v' (xs ++ ys) ∧ w.grownBy w' v.ownBlock := by
  obtain ⟨i0, hi0, hz0, hz1, hz2⟩ := info_parts r.info
  rcases hy with ⟨rfl, rfl⟩ | ⟨b, p, c, rfl, hrow⟩
  · rcases hown.form2 with ⟨rfl, _⟩ | ⟨g, cap, rfl, _, _, hcap, _, _⟩
    · exact ⟨_, w, run_append_nothing w r.sl r.sl ty r.ty i0 r.und hi0 _ _ _ (Nat.le_refl _) _ (Src.ofNil _ r.und 0), by rw [List.append_nil]; exact hown, World.grownBy.refl _ _⟩
    · exact ⟨_, w, run_append_nothing w r.sl r.sl ty r.ty i0 r.und hi0 _ _ _ hcap _ (Src.ofNil _ r.und 0), by rw [List.append_nil]; exact hown, World.grownBy.refl _ _⟩
  · obtain ⟨v', w', h1, h2, h3, _⟩ := run_append_own (P := Tryd.prog) w base r.sl ty r.ty i0 _ r.sz r.bt r.und hi0 hz0 hz1 hz2 r.zs r.pos v xs.length (r.cells xs) hown ⟨b, p, none⟩ ys.length c (r.cells ys)
      (r.cells_len ys) (fun j u hj => by
        rw [show (⟨b, p, none⟩ : Addr).add j = ⟨b, p + j, none⟩ from add_addr b p j]
        exact hrow.all j u hj) (r.cells_one ys) (by unfold maxLen; omega) (by
        have := r.btl
        have : (xs.length + ys.length) * r.bt ≤ 1000000 * 64 := Nat.mul_le_mul (by omega) this
        omega) hb
    refine ⟨v', w', h1, ?_, h3⟩
    unfold RT.Own
    rw [List.length_append, RT.cells_append]
    exact h2
theorem wpList_append_all {α : Type} {r : RT α} {ops : Array Oper} {rest : List Oper} {o : Oper} {a : Act} {w : World} {Q : Exit → Act → World → Prop} (hg : o.guard = none) (s y : Operand)
    (hop : o.op = Op.call { callee := Callee.builtin Builtin.append, args := #[s, y], argTypes := #[r.sl, r.sl] }) (base : Nat)
    (v yv : Value) (xs ys : List α) (hs : a.eval s = v) (hown : r.Own w base v xs) (hx : a.eval y = yv) (hy : r.Any w yv ys) (hb1 : xs.length + ys.length ≤ 1000000) (hb : base ≤ w.heap.size)
    (hK : ∀ v' w', r.Own w' base v' (xs ++ ys) → w.grownBy w' v.ownBlock → wpList Tryd.prog ops Q rest (a.put o.dst v') w') : wpList Tryd.prog ops Q (o :: rest) a w := by
  refine wpList_plain hg fun K hK' => ?_
  obtain ⟨v', w', h1, h2, h3⟩ := run_append_all o.type hown hy hb1 hb
  unfold Oper.wp
  simp [execOp, hop, resolve, invoke, builtin, hs, hx, h1, Result.andThen]
  exact hK' _ _ (hK v' w' h2 h3)
theorem pieces_join (c : UInt8) (b : List UInt8) : ∀ a : List UInt8, pieces c (a ++ c :: b) = pieces c a ++ pieces c b
  | [] => by
    show pieces c (c :: b) = [[]] ++ pieces c b
    rw [pieces, if_pos rfl]
    rfl
  | x :: a => by
    have ih := pieces_join c b a
    rw [List.cons_append, pieces, pieces]
    by_cases h : x = c
    · rw [if_pos h, if_pos h, ih]
      rfl
    · rw [if_neg h, if_neg h, ih]
      cases hp : pieces c a with
      | nil => exact absurd hp (pieces_ne c a)
      | cons p ps => rfl
theorem itemsL_join (a b : List UInt8) : itemsL (a ++ 59 :: b) = itemsL a ++ itemsL b := by
  unfold itemsL
  rw [pieces_join, List.filterMap_append]
theorem itemsL_good {s : List UInt8} {x : Atb} (hx : x ∈ itemsL s) : keyB x.1 = true ∧ (bs x.2).toList.isEmpty = false ∧ x.1.length ≤ s.length := by
  unfold itemsL at hx
  obtain ⟨p, hp, h⟩ := List.mem_filterMap.1 hx
  have hpl := pieces_len 59 s p hp
  have hcl := cut_len p
  unfold itemOf at h
  split at h
  · rename_i hc
    cases h
    simp only [Bool.and_eq_true] at hc
    refine ⟨hc.1, ?_, Nat.le_trans hcl.1 hpl⟩
    rw [bs_isEmpty]
    simpa using hc.2
  · cases h
set_option maxRecDepth 100000 in
set_option maxHeartbeats 8000000 in
theorem helperJoins_walk (sa sb : ByteArray) (W : World) (hm : ∃ m : Int, W.cell? ⟨0, 0, none⟩ = some (.int .i64 m)) : Calls Tryd.prog 8 #[.string sa, .string sb] W fun e W' => e = .returned (.bool true) ∧ Below W.heap.size W W' := by
  have hmx : Max W := hm
  have HMX := Lib.hid fun W' (h : Kp [] W W') => hmx.kp h (by simp)
  have HKN := Lib.hid fun W' (h : Kp [] W W') => known_any (hmx.kp h (by simp))
  clear hm hmx
  by_cases ha : sa.size ≤ 300
  · have ha' : ¬ (300 : Int) < (sa.size : Int) := by omega
    by_cases hb : sb.size ≤ 300
    · have hb' : ¬ (300 : Int) < (sb.size : Int) := by omega
      obtain ⟨la, hla⟩ : ∃ la, la = sa.data.toList := ⟨_, rfl⟩
      obtain ⟨lb, hlb⟩ : ∃ lb, lb = sb.data.toList := ⟨_, rfl⟩
      have hal : la.length ≤ 300 := by rw [hla, ← Lib.size_eq]; exact ha
      have hbl : lb.length ≤ 300 := by rw [hlb, ← Lib.size_eq]; exact hb
      have hsa : sa = bs la := by rw [hla]; exact (bs_of sa).symm
      have hsb : sb = bs lb := by rw [hlb]; exact (bs_of sb).symm
      obtain ⟨ls, hls⟩ : ∃ ls, la ++ 59 :: lb = ls := ⟨_, rfl⟩
      have hss : sa ++ ⟨#[59]⟩ ++ sb = bs ls := by
        rw [hsa, hsb, show (⟨#[59]⟩ : ByteArray) = bs [59] from rfl, bs_app, bs_app, ← hls]
        congr 1
        simp
      have hll : ls.length ≤ 601 := by rw [← hls]; simp; omega
      have HS := Lib.hid fun W' (h : Kp [] W W') => show Calls Tryd.prog 19 #[.string (sa ++ ⟨#[59]⟩ ++ sb)] W' _ from by rw [hss]; exact items_any (s := ls) (by omega) (HMX.out W' h)
      have HA := Lib.hid fun W' (h : Kp [] W W') => show Calls Tryd.prog 19 #[.string sa] W' _ from by rw [hsa]; exact items_any (s := la) (by omega) (HMX.out W' h)
      have HB := Lib.hid fun W' (h : Kp [] W W') => show Calls Tryd.prog 19 #[.string sb] W' _ from by rw [hsb]; exact items_any (s := lb) (by omega) (HMX.out W' h)
      have HJ := Lib.hid (show itemsL ls = itemsL la ++ itemsL lb by rw [← hls]; exact itemsL_join la lb)
      have hcount : ∀ s : List UInt8, s.length ≤ 601 → (itemsL s).length ≤ 602 := fun s hs => by
        have h1 := List.length_filterMap_le itemOf (pieces 59 s)
        have h2 := pieces_count 59 s
        unfold itemsL
        omega
      have hc1 := hcount ls (by omega)
      have hc2 := hcount la (by omega)
      have hc3 := hcount lb (by omega)
      have HG := Lib.hid fun x (hx : x ∈ itemsL ls) => itemsL_good hx
      obtain ⟨X, hX⟩ : ∃ X, itemsL ls = X := ⟨_, rfl⟩
      obtain ⟨A, hA⟩ : ∃ A, itemsL la = A := ⟨_, rfl⟩
      obtain ⟨B, hB⟩ : ∃ B, itemsL lb = B := ⟨_, rfl⟩
      rw [hX] at HS HJ HG hc1
      rw [hA] at HA HJ hc2
      rw [hB] at HB HJ hc3
      clear hla hlb hal hbl hsa hsb hls hss hcount hX hA hB
      go_enter Tryd.func8, Tryd.ntmps8
      go_wp2_with (go_at_call 19; refine Calls.mono (by with_reducible exact HS.out _ (Kp.refl _ _)) ?_; rintro e w1 ⟨v1, rfl, ho, hk⟩; have HO1 := Lib.hid ho; have HK1 := Lib.hid hk; obtain ⟨ad, cp, rfl⟩ := ho.form; clear ho hk)
      obtain ⟨va, vc, hsl, hrow⟩ := HO1.out.has.form
      cases hsl
      have HROW := Lib.hid hrow
      clear hrow
      go_loopg [6] X.length (fun g s6 wx => ∃ i : Nat, s6 = .int .i64 (i : Int) ∧ i + g = X.length ∧ Kp [] w1 wx)
      case atStart => exact ⟨0, rfl, by omega, Kp.refl _ _⟩
      case round =>
        obtain ⟨i, rfl, hig, hkp⟩ := hrel
        have HK := Lib.hid hkp
        have HI := Lib.hid hig
        by_cases hi : i < X.length
        · obtain ⟨g, rfl⟩ : ∃ g, gk = g + 1 := ⟨gk - 1, by omega⟩
          obtain ⟨b, o, rfl, hbl, hr⟩ := HROW.out (by rintro rfl; simp at hi)
          obtain ⟨x, hx⟩ : ∃ x, X[i]? = some x := ⟨_, List.getElem?_eq_getElem hi⟩
          have hiz : (i : Int) < (X.length : Int) := by omega
          have HC := Lib.hid fun W' (h : Kp [] w1 W') => atRow (hr.keep (h.block b hbl (by simp))) hx
          obtain ⟨c0, c1⟩ := HC.out _ hkp
          obtain ⟨hg1, hg2, hg3⟩ := HG.out x (List.mem_of_getElem? hx)
          have HKey := Lib.hid fun W' => key_kp (s := x.1) (by omega) W'
          rw [hg1] at HKey
          have hwi : IntKind.i64.wrap ((i : Int) + 1) = ((i + 1 : Nat) : Int) := by rw [IntKind.wrap_i64]; omega
          clear hkp hr hx hig hbl hg1 hg3
          go_wp2_with (go_at_call 22; refine Calls.mono (by with_reducible exact HKey.out _) ?_; rintro e w2 ⟨rfl, hk⟩; obtain ⟨d0, d1⟩ := HC.out _ (HK.out.trans hk); have HK2 := Lib.hid (HK.out.trans hk); clear hk c0 c1)
          go_roundg g
          case measure => omega
          case rel => exact ⟨i + 1, rfl, by have := HI.out; omega, HK2.out⟩
        · have hiz : ¬ ((i : Int) < (X.length : Int)) := by omega
          clear hkp hig hi
          go_wp2_with (first
            | (go_at_call 9; refine Calls.mono (by with_reducible exact HKN.out _ HK6.out) ?_; rintro e w6 ⟨rfl, hk⟩; have HK7 := Lib.hid (HK6.out.trans hk); clear hk)
            | (go_at_call 18; refine Calls.mono (by with_reducible exact sameAttrs_refl (by omega) (HO1.out.kp0 HK14.out).has HO4.out.has) ?_; rintro e w5 ⟨rfl, hk⟩; have HK6 := Lib.hid (HK1.out.trans (HK14.out.trans hk)); clear hk)
            | (go_at_call 19; refine Calls.mono (by with_reducible exact HB.out _ (HK1.out.trans (HK.out.trans HK2.out))) ?_; rintro e w3 ⟨vb, rfl, ho, hk⟩; have HO3 := Lib.hid ho; have HO23 := Lib.hid (HO2.out.kp0 hk); have HK3 := Lib.hid (HK2.out.trans hk); obtain ⟨adb, cpb, rfl⟩ := ho.form; clear ho hk)
            | (go_at_call 19; refine Calls.mono (by with_reducible exact HA.out _ (HK1.out.trans HK.out)) ?_; rintro e w2 ⟨va, rfl, ho, hk⟩; have HO2 := Lib.hid ho; have HK2 := Lib.hid hk; obtain ⟨ada, cpa, rfl⟩ := ho.form; clear ho hk)
            | (at_builtin; refine wpList_append_all (r := atT) rfl _ _ rfl wr.heap.size _ _ A B rfl HO23.out rfl HO3.out.any (by omega) HK3.out.size ?_; intro v4 w4 hown4 hg4; have hx4 : atT.Own w4 wr.heap.size v4 X := (by rw [HJ.out]; exact hown4); have HO4 := Lib.hid hx4; have HK14 := Lib.hid (HK.out.trans (kp_own HK3.out HO23.out (Nat.le_refl _) hg4)); obtain ⟨ad4, cp4, rfl⟩ := hx4.form; clear hown4 hg4 hx4))
          go_ret
          exact ⟨rfl, HK7.out.below (Nat.le_refl _) (by simp)⟩
    · have hb' : (300 : Int) < (sb.size : Int) := by omega
      clear hb ha
      go_enter Tryd.func8, Tryd.ntmps8
      go_wp2_with (go_at_call 9; refine Calls.mono (by with_reducible exact HKN.out _ (Kp.refl _ _)) ?_; rintro e w4 ⟨rfl, hk⟩; have HK4 := Lib.hid hk; clear hk)
      go_ret
      exact ⟨rfl, HK4.out.below (Nat.le_refl _) (by simp)⟩
  · have ha' : (300 : Int) < (sa.size : Int) := by omega
    clear ha
    go_enter Tryd.func8, Tryd.ntmps8
    go_wp2_with (go_at_call 9; refine Calls.mono (by with_reducible exact HKN.out _ (Kp.refl _ _)) ?_; rintro e w4 ⟨rfl, hk⟩; have HK4 := Lib.hid hk; clear hk)
    go_ret
    exact ⟨rfl, HK4.out.below (Nat.le_refl _) (by simp)⟩
end Go.Proofs.YteiphphihclnfaaDoor
