/- AliasShares: the law's walk. -/
import Derived.Test.YtdlchlbngojljaaDoorQD3
import Derived.Test.YtdlchlbngojljaaDoorQM8
namespace Go.Proofs.YtdlchlbngojljaaDoor
open Go.RowKit Go.Maps
open Gl (lessB)
theorem cf_oneS {mv bv ov kv xv : Value} (h : ∀ v ∈ [mv, bv, ov, kv, xv], ∃ a n c, v = .slice a n c) : (cfV mv bv ov kv xv).all (·.oneCell') = true := by
 obtain ⟨_, _, _, e0⟩ := h mv (by simp)
 obtain ⟨_, _, _, e1⟩ := h bv (by simp)
 obtain ⟨_, _, _, e2⟩ := h ov (by simp)
 obtain ⟨_, _, _, e3⟩ := h kv (by simp)
 obtain ⟨_, _, _, e4⟩ := h xv (by simp)
 unfold cfV
 rw [e0, e1, e2, e3, e4]
 simp [Value.oneCell']
theorem has_slS {α : Type} {r : RT α} {B : Nat} {w : World} {v : Value} {l : List α} (h : r.HasB B w v l) : ∃ a n c, v = .slice a n c := by
 obtain ⟨a, c, e, _⟩ := h.form
 exact ⟨a, _, c, e⟩
def nmL : List Tx := [[104, 105, 100], [110, 105, 99], [111, 116, 104, 101, 114], [98, 97, 100], [99, 111, 114, 101]]
set_option maxHeartbeats 16000000 in
set_option maxRecDepth 100000 in
theorem aliasShares_walk (la : Option Addr) (ln lc : Nat) (sa sb : ByteArray) (w : World) (hT : Gl.TabAt w) (hI : Ints w w.heap.size (.slice la ln lc)) : Calls Tryd.prog 4 #[.slice la ln lc, .string sa, .string sb] w fun e w' => e = .returned (.bool true) ∧ Below w.heap.size w w' := by
 obtain ⟨a0, rfl⟩ : ∃ x, sa = bs x := ⟨_, (bs_of sa).symm⟩
 obtain ⟨b0, rfl⟩ : ∃ x, sb = bs x := ⟨_, (bs_of sb).symm⟩
 have htp := tp_new hI
 have hk1 := (Kp.refl [] w).alloc (.cells #[.slice la ln lc, .int .i64 0] 26)
 obtain ⟨tb, htb⟩ : ∃ b, w.heap.size = b := ⟨_, rfl⟩
 obtain ⟨W1, hW1⟩ : ∃ W, w.alloc (.cells #[.slice la ln lc, .int .i64 0] 26) = W := ⟨_, rfl⟩
 rw [hW1, htb] at htp
 rw [hW1] at hk1
 have h0 : 0 < tb := by rw [← htb]; exact hT.lt
 have HCf := Lib.hid (config_any (by omega) htp)
 have HKn := Lib.hid fun W (h : Gl.TabAt W) => known_any W h
 have HTab := Lib.hid (show ∀ W, Kp [tb] W1 W → Gl.TabAt W from fun W h => tab_keep hT ((h.block 0 (by have := hk1.size; omega) (by simp; omega)).trans (hk1.block 0 (by omega) (by simp))))
 have Htb := Lib.hid htb
 have HW1 := Lib.hid hW1
 have Hk1 := Lib.hid hk1
 unfold CfPost at HCf
 clear htp hk1 htb hW1 hI hT
 go_enter Tryd.func4, Tryd.ntmps4
 go_upto_region 2 with fail
 rw [Htb.out, HW1.out]
 go_wp2_with fail
 refine Calls.mono (by with_reducible exact HCf.out) ?_
 rintro e W2 ⟨v, ⟨mv, bv, ov, kv, xv, l, C, q1, rfl, hat, hsub, hbl, hex, hbs, hxs, hq1, hT2, hk2, hov, hkv⟩, rfl⟩
 obtain ⟨c4, hc4⟩ : ∃ b, W2.heap.size = b := ⟨_, rfl⟩
 have hone := cf_oneS (mv := mv) (bv := bv) (ov := ov) (kv := kv) (xv := xv) (fun z hz => by
  simp only [List.mem_cons, List.not_mem_nil, or_false] at hz
  rcases hz with rfl | rfl | rfl | rfl | rfl
  ·exact has_slS hat.ms.has
  ·exact has_slS hat.bl
  ·exact hov
  ·exact hkv
  ·exact has_slS hat.ex)
 obtain ⟨W3, hW3⟩ : ∃ W, W2.alloc (.cells (cfV mv bv ov kv xv) 31) = W := ⟨_, rfl⟩
 have hk3 : Kp [] W2 W3 := by rw [← hW3]; exact (Kp.refl [] W2).alloc _
 have hr3 := heap_alloc_last W2 (.cells (cfV mv bv ov kv xv) 31)
 rw [hW3, hc4] at hr3
 have Hone := Lib.hid hone
 have Hc4 := Lib.hid hc4
 have HW3 := Lib.hid hW3
 have Hr3 := Lib.hid hr3
 have Hk3 := Lib.hid hk3
 have HT2 := Lib.hid hT2
 have Hk2 := Lib.hid hk2
 have Hq1 := Lib.hid hq1
 have Hat := Lib.hid hat
 have Hty := Lib.hid (sub_ty hsub (by omega) (by omega) (fun s hs => Nat.le_trans (hbs s hs) (by omega)) (fun e he => ⟨Nat.le_trans (hxs e he).1 (by omega), Nat.le_trans (hxs e he).2 (by omega)⟩))
 have Hov := Lib.hid hov
 have Hkv := Lib.hid hkv
 clear hone hc4 hW3 hr3 hk3 hT2 hk2 hq1 hat hsub hbl hex hbs hxs hov hkv HCf
 go_upto_region 3 with (refine Gl.wpList_store_new W2 31 _ (cfV mv bv ov kv xv) rfl _ _ rfl rfl rfl info31b rfl Hone.out ?_)
 rw [Hc4.out, HW3.out]
 have hlt : tb < c4 := by have := HT2.out.lt; have := Hc4.out; omega
 have hT3 : Tp W3 tb q1 := HT2.out.kp Hk3.out (by simp)
 have hk13 : Kp [tb] W1 W3 := Hk2.out.trans (Hk3.out.mono (by simp))
 have hW1s : W1.heap.size = tb + 1 := by have := Htb.out; rw [← HW1.out, World.size_alloc]; omega
 have hat3 := Hat.out.kp Hk3.out (by simp)
 have hty := Hty.out
 obtain ⟨cv, hcv⟩ : ∃ c, cfV mv bv ov kv xv = c := ⟨_, rfl⟩
 have hr3 := Hr3.out
 rw [hcv] at hr3
 have Hinf := Lib.hid (show (Tryd.prog.info? 31).map (·.size) = some cv.size from by rw [← hcv]; exact info31b)
 have Hld := Lib.hid (show ∀ W, Kp [tb] W3 W → W.heap[c4]? = some (.cells cv 31 (0, 0)) from fun W h => (h.block c4 (block_lt hr3) (by simp; omega)).trans hr3)
 have HTW := Lib.hid (show ∀ W, Kp [tb] W3 W → Gl.TabAt W from fun W h => HTab.out W (hk13.trans h))
 have HShd := Lib.hid (show ∀ (a b : Tx), ∀ W, Kp [tb] W3 W → Calls Tryd.prog 17 #[.agg cv, .string (bs a), .string (bs b)] W (ShPost C a b W) from fun a b W h => by
  rw [← hcv]
  exact shared_any a b (hat3.kp h (by simp; omega)) hty (HTab.out W (hk13.trans h)))
 have HRsd := Lib.hid (show ∀ (a b : Tx), ∀ W, Kp [tb] W3 W → Calls Tryd.prog 18 #[.agg cv, .string (bs a), .string (bs b)] W (ShPost C a b W) from fun a b W h => by
  rw [← hcv]
  exact refShared_any a b (hat3.kp h (by simp; omega)) hty)
 have HT3 := Lib.hid hT3
 have HK13 := Lib.hid hk13
 have HN := Lib.hid (show Calls Tryd.prog 15 #[.pointer (some ⟨tb, 0, none⟩), .int .i64 4] W3 (fun e w' => ∃ r : Nat, r < 4 ∧ e = .returned (.int .i64 r) ∧ Tp w' tb (q1 + 1) ∧ Kp [tb] W3 w') from next_kp 4 (by decide) (by decide) (by have := Hq1.out; omega) hT3)
 clear hT3 hk13 hat3 hty hcv hr3 HT2 Hat Hty Hr3 Hk3 Hk2 Hone
 try simp only [Act.put]
 go_wp2_with fail
 refine Calls.mono (by with_reducible exact HN.out) ?_
 rintro e W5 ⟨r, hr, rfl, hT5, hk5⟩
 have HT5 := Lib.hid hT5
 have HK5 := Lib.hid hk5
 clear hT5 hk5 HN HT3
 by_cases hr0 : 0 < r
 ·have hrz : (0 : Int) < (r : Int) := by omega
  have hone := one_new nmL (by decide) (by decide) (by have := Hq1.out; omega) HT5.out
  obtain ⟨B6, hB⟩ : ∃ B, W5.heap.size = B := ⟨_, rfl⟩
  obtain ⟨AB6, hA⟩ : ∃ X, W5.alloc (.cells #[.string ⟨#[104, 105, 100]⟩, .string ⟨#[110, 105, 99]⟩, .string ⟨#[111, 116, 104, 101, 114]⟩, .string ⟨#[98, 97, 100]⟩, .string ⟨#[99, 111, 114, 101]⟩] 9) = X := ⟨_, rfl⟩
  have HO := Lib.hid (show Calls Tryd.prog 16 #[.pointer (some ⟨tb, 0, none⟩), .slice (some ⟨B6, 0, none⟩) 5 5] AB6 (fun e w' => ∃ x, x ∈ nmL ∧ e = .returned (.string (bs x)) ∧ Tp w' tb ((q1 + 1) + 1) ∧ Kp [tb] W5 w') from by rw [← hA, ← hB]; exact hone)
  have HB := Lib.hid hB
  have HA := Lib.hid hA
  clear hone hB hA
  go_wp2_with fail
  rw [HB.out, HA.out]
  refine Calls.mono (by with_reducible exact HO.out) ?_
  rintro e W6 ⟨a1, _, rfl, hW6T, hW6K⟩
  have HW6T := Lib.hid hW6T
  have HW6K := Lib.hid (HK5.out.trans hW6K)
  clear hW6T hW6K HO HB HA
  have hone := one_new nmL (by decide) (by decide) (by have := Hq1.out; omega) HW6T.out
  obtain ⟨B7, hB⟩ : ∃ B, W6.heap.size = B := ⟨_, rfl⟩
  obtain ⟨AB7, hA⟩ : ∃ X, W6.alloc (.cells #[.string ⟨#[104, 105, 100]⟩, .string ⟨#[110, 105, 99]⟩, .string ⟨#[111, 116, 104, 101, 114]⟩, .string ⟨#[98, 97, 100]⟩, .string ⟨#[99, 111, 114, 101]⟩] 9) = X := ⟨_, rfl⟩
  have HO := Lib.hid (show Calls Tryd.prog 16 #[.pointer (some ⟨tb, 0, none⟩), .slice (some ⟨B7, 0, none⟩) 5 5] AB7 (fun e w' => ∃ x, x ∈ nmL ∧ e = .returned (.string (bs x)) ∧ Tp w' tb ((q1 + 1 + 1) + 1) ∧ Kp [tb] W6 w') from by rw [← hA, ← hB]; exact hone)
  have HB := Lib.hid hB
  have HA := Lib.hid hA
  clear hone hB hA
  go_wp2_with fail
  rw [HB.out, HA.out]
  refine Calls.mono (by with_reducible exact HO.out) ?_
  rintro e W7 ⟨b1, _, rfl, hW7T, hW7K⟩
  have HW7T := Lib.hid hW7T
  have HW7K := Lib.hid (HW6K.out.trans hW7K)
  clear hW7T hW7K HO HB HA
  obtain ⟨RS, hRS⟩ : ∃ r, shrL lessB comG (aliN C.mods a1) (aliN C.mods b1) = r := ⟨_, rfl⟩
  obtain ⟨z, hz⟩ : ∃ z, bs (RS.getD []) = z := ⟨_, rfl⟩
  obtain ⟨ok, hok⟩ : ∃ z, RS.isSome = z := ⟨_, rfl⟩
  have HS1 := Lib.hid (show ∀ W, Kp [tb] W3 W → Calls Tryd.prog 17 #[.agg cv, .string (bs a1), .string (bs b1)] W (fun e w' => e = .returned (.tuple #[.string z, .bool ok]) ∧ Kp [] W w') from fun W h => by
   have h9 := HShd.out a1 b1 W h
   unfold ShPost at h9
   rwa [hRS, hz, hok] at h9)
  have HS2 := Lib.hid (show ∀ W, Kp [tb] W3 W → Calls Tryd.prog 18 #[.agg cv, .string (bs a1), .string (bs b1)] W (fun e w' => e = .returned (.tuple #[.string z, .bool ok]) ∧ Kp [] W w') from fun W h => by
   have h9 := HRsd.out a1 b1 W h
   unfold ShPost at h9
   rwa [hRS, hz, hok] at h9)
  clear hRS hz hok HShd HRsd
  go_wp2_with (refine wpList_load_row rfl 31 _ rfl c4 rfl 31 cv _ _ (Hld.out W7 HW7K.out) Tryd.underlying31 rfl Hinf.out ?_)
  refine Calls.mono (by with_reducible exact HS1.out W7 HW7K.out) ?_
  rintro e W8 ⟨rfl, hk8⟩
  have HK8 := Lib.hid (HW7K.out.trans (hk8.mono (by simp)))
  clear hk8
  go_wp2_with (refine wpList_load_row rfl 31 _ rfl c4 rfl 31 cv _ _ (Hld.out W8 HK8.out) Tryd.underlying31 rfl Hinf.out ?_)
  refine Calls.mono (by with_reducible exact HS2.out W8 HK8.out) ?_
  rintro e W9 ⟨rfl, hk9⟩
  have HK9 := Lib.hid (HK8.out.trans (hk9.mono (by simp)))
  clear hk9
  go_wp2_with fail
  refine Calls.mono (by with_reducible exact HKn.out _ (HTW.out W9 HK9.out)) ?_
  rintro e W11 ⟨rfl, hk11⟩
  have HK11 := Lib.hid (HK9.out.trans (hk11.mono (by simp)))
  clear hk11
  go_wp2
  go_ret
  exact ⟨rfl, kp_bel ((Hk1.out.mono (by simp)).trans (HK13.out.trans HK11.out)) (by have := Htb.out; omega)⟩
 ·have hrz : ¬ ((0 : Int) < (r : Int)) := by omega
  obtain ⟨RS, hRS⟩ : ∃ r, shrL lessB comG (aliN C.mods a0) (aliN C.mods b0) = r := ⟨_, rfl⟩
  obtain ⟨z, hz⟩ : ∃ z, bs (RS.getD []) = z := ⟨_, rfl⟩
  obtain ⟨ok, hok⟩ : ∃ z, RS.isSome = z := ⟨_, rfl⟩
  have HS1 := Lib.hid (show ∀ W, Kp [tb] W3 W → Calls Tryd.prog 17 #[.agg cv, .string (bs a0), .string (bs b0)] W (fun e w' => e = .returned (.tuple #[.string z, .bool ok]) ∧ Kp [] W w') from fun W h => by
   have h9 := HShd.out a0 b0 W h
   unfold ShPost at h9
   rwa [hRS, hz, hok] at h9)
  have HS2 := Lib.hid (show ∀ W, Kp [tb] W3 W → Calls Tryd.prog 18 #[.agg cv, .string (bs a0), .string (bs b0)] W (fun e w' => e = .returned (.tuple #[.string z, .bool ok]) ∧ Kp [] W w') from fun W h => by
   have h9 := HRsd.out a0 b0 W h
   unfold ShPost at h9
   rwa [hRS, hz, hok] at h9)
  clear hRS hz hok HShd HRsd
  go_wp2_with (refine wpList_load_row rfl 31 _ rfl c4 rfl 31 cv _ _ (Hld.out W5 HK5.out) Tryd.underlying31 rfl Hinf.out ?_)
  refine Calls.mono (by with_reducible exact HS1.out W5 HK5.out) ?_
  rintro e W8 ⟨rfl, hk8⟩
  have HK8 := Lib.hid (HK5.out.trans (hk8.mono (by simp)))
  clear hk8
  go_wp2_with (refine wpList_load_row rfl 31 _ rfl c4 rfl 31 cv _ _ (Hld.out W8 HK8.out) Tryd.underlying31 rfl Hinf.out ?_)
  refine Calls.mono (by with_reducible exact HS2.out W8 HK8.out) ?_
  rintro e W9 ⟨rfl, hk9⟩
  have HK9 := Lib.hid (HK8.out.trans (hk9.mono (by simp)))
  clear hk9
  go_wp2_with fail
  refine Calls.mono (by with_reducible exact HKn.out _ (HTW.out W9 HK9.out)) ?_
  rintro e W11 ⟨rfl, hk11⟩
  have HK11 := Lib.hid (HK9.out.trans (hk11.mono (by simp)))
  clear hk11
  go_wp2
  go_ret
  exact ⟨rfl, kp_bel ((Hk1.out.mono (by simp)).trans (HK13.out.trans HK11.out)) (by have := Htb.out; omega)⟩
end Go.Proofs.YtdlchlbngojljaaDoor
