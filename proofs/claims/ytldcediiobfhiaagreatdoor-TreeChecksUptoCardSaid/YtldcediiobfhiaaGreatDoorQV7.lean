/- The chapter's examples: the plain side. The chapter's examples: known. -/
import Derived.Test.YtldcediiobfhiaaGreatDoorQV6
namespace Go.Proofs.YtldcediiobfhiaaGreatDoor.De
open Go.RowKit Go.Maps
def knL : List DV := [(⟨1, 0, ⟨#[112, 99, 105, 48]⟩, ⟨#[112, 99, 105, 48]⟩, ⟨#[112, 99, 105]⟩, ⟨#[]⟩, ⟨#[]⟩, 1, 0, []⟩, .slice none 0 0), (⟨2, 1, ⟨#[115, 100, 97]⟩, ⟨#[115, 100, 97]⟩, ⟨#[98, 108, 111, 99, 107]⟩, ⟨#[]⟩, ⟨#[]⟩, 2, 8, []⟩, .slice none 0 0), (⟨4, 0, ⟨#[117, 115, 98, 48]⟩, ⟨#[117, 115, 98, 48]⟩, ⟨#[117, 115, 98]⟩, ⟨#[]⟩, ⟨#[]⟩, 1, 0, []⟩, .slice none 0 0), (⟨5, 4, ⟨#[108, 97, 110, 48]⟩, ⟨#[101, 116, 104, 48]⟩, ⟨#[110, 101, 116]⟩, ⟨#[]⟩, ⟨#[]⟩, 4, 0, []⟩, .slice none 0 0)]
def knD : Dev := ⟨6, 4, ⟨#[115, 100, 97]⟩, ⟨#[115, 100, 97]⟩, ⟨#[98, 108, 111, 99, 107]⟩, ⟨#[]⟩, ⟨#[]⟩, 2, 9, .slice none 0 0⟩
theorem kn_org : trlO ADev.orig knL 5 = some [47, 117, 115, 98, 48, 47, 101, 116, 104, 48] := by kernel_rfl
theorem kn_nam : trlO ADev.name knL 5 = some [47, 117, 115, 98, 48, 47, 108, 97, 110, 48] := by kernel_rfl
theorem kn_adm : admT (knL.map (·.1)) knD [] = 0 := by kernel_rfl
theorem kn_cnt : Lib.countByte (orgB knL (aOf knD [])).data.toList 47 = 2 := by kernel_rfl
theorem kn_cls : clsB knL knD = true := by kernel_rfl
theorem kn_chk : treeT knL = 0 := by kernel_rfl
end Go.Proofs.YtldcediiobfhiaaGreatDoor.De
namespace Go.Proofs.YtldcediiobfhiaaGreatDoor.De
open Go.RowKit Go.Maps
theorem kn_mem {P : DV → Prop} (h0 : P knL[0]) (h1 : P knL[1]) (h2 : P knL[2]) (h3 : P knL[3]) : ∀ x ∈ knL, P x := fun x hx => by
 simp only [knL, List.mem_cons, List.not_mem_nil, or_false] at hx
 rcases hx with rfl | rfl | rfl | rfl
 ·exact h0
 ·exact h1
 ·exact h2
 ·exact h3
theorem kn_has {W : World} {G : Nat} (hG : W.heap[G]? = some (.cells (dvsC knL).toArray 34 (0, 0))) : DHas W (.slice (some ⟨G, 0, none⟩) 4 4) knL := by
 refine .inr ⟨G, 0, 4, rfl, Nat.le_refl _, (Array.getElem?_eq_some_iff.1 hG).1, ⟨fun j x hx m v hv => ?_, kn_mem (.inl ⟨none, 0, rfl, rfl⟩) (.inl ⟨none, 0, rfl, rfl⟩) (.inl ⟨none, 0, rfl, rfl⟩) (.inl ⟨none, 0, rfl, rfl⟩)⟩⟩
 have hm : m < 10 := (List.getElem?_eq_some_iff.1 hv).1
 rw [cell_of_row _ _ _ _ _ _ hG, List.getElem?_toArray, Nat.zero_add, dvsC_get knL j x m hx hm]
 exact hv
theorem kn_tok : TOk knL := ⟨by decide, kn_mem rfl rfl rfl rfl, kn_mem rfl rfl rfl rfl, kn_mem (by decide) (by decide) (by decide) (by decide), kn_mem (by decide) (by decide) (by decide) (by decide)⟩
theorem kn_sz (d : Dev) (h1 : d.name.size ≤ 100) (h2 : d.orig.size ≤ 100) (h3 : d.sub.size ≤ 100) (h4 : d.drv.size ≤ 100) (h5 : d.ali.size ≤ 100) : Sized d [] := ⟨by omega, by omega, by omega, by omega, by omega, fun a ha => by cases ha⟩
theorem kn_cok : COk knL := ⟨kn_tok, kn_mem (kn_sz _ (by decide) (by decide) (by decide) (by decide) (by decide)) (kn_sz _ (by decide) (by decide) (by decide) (by decide) (by decide)) (kn_sz _ (by decide) (by decide) (by decide) (by decide) (by decide)) (kn_sz _ (by decide) (by decide) (by decide) (by decide) (by decide)), kn_mem (by decide) (by decide) (by decide) (by decide)⟩
theorem kn_cap {G : Nat} : ∀ a n c, (Value.slice (some ⟨G, 0, none⟩) 4 4) = .slice a n c → n ≤ c := fun a n c e => by
 simp only [Value.slice.injEq] at e
 omega
theorem kn_ins (r : Nat) : insP knL knD [] r = 44 := by
 unfold insP
 rw [if_neg (by rw [kn_adm]; simp), if_neg (by decide), if_neg (by rw [kn_cnt]; decide), kn_cls]
 split <;> rfl
theorem kn30 {W : World} {G : Nat} (hG : W.heap[G]? = some (.cells (dvsC knL).toArray 34 (0, 0))) : Calls Tryz.prog 30 #[.agg #[.slice (some ⟨G, 0, none⟩) 4 4], .int .i64 5] W fun e w' => e = .returned (.tuple #[.string ⟨#[47, 117, 115, 98, 48, 47, 101, 116, 104, 48]⟩, .bool true]) ∧ Kp [] W w' :=
 (origin_any (.slice (some ⟨G, 0, none⟩) 4 4) knL 5 W kn_tok (kn_has hG) kn_cap rfl).mono fun e w' ⟨u, he, hu, hk⟩ => ⟨by
  rw [kn_org] at he hu
  rw [he, bytes_of hu]
  rfl, hk⟩
theorem kn31 {W : World} {G : Nat} (hG : W.heap[G]? = some (.cells (dvsC knL).toArray 34 (0, 0))) : Calls Tryz.prog 31 #[.agg #[.slice (some ⟨G, 0, none⟩) 4 4], .int .i64 5] W fun e w' => e = .returned (.tuple #[.string ⟨#[47, 117, 115, 98, 48, 47, 108, 97, 110, 48]⟩, .bool true]) ∧ Kp [] W w' :=
 (path_any (.slice (some ⟨G, 0, none⟩) 4 4) knL 5 W kn_tok (kn_has hG) kn_cap rfl).mono fun e w' ⟨u, he, hu, hk⟩ => ⟨by
  rw [kn_nam] at he hu
  rw [he, bytes_of hu]
  rfl, hk⟩
theorem kn40 {W : World} {G : Nat} (hG : W.heap[G]? = some (.cells (dvsC knL).toArray 34 (0, 0))) (hm : Max W) : Calls Tryz.prog 40 #[.agg #[.slice (some ⟨G, 0, none⟩) 4 4], devV knD] W fun e w' => e = .returned (.tuple #[.agg #[.slice none 0 0], .int .i64 44]) ∧ Kp [] W w' :=
 insertErr_any (.slice (some ⟨G, 0, none⟩) 4 4) knL knD [] W kn_tok (kn_has hG) kn_cap (.inl ⟨none, 0, rfl, rfl⟩) (kn_sz _ (by decide) (by decide) (by decide) (by decide) (by decide)) (by decide) (by decide) hm rfl rfl 44 (by decide) fun r _ => kn_ins r
theorem kn16 {W : World} {G : Nat} (hG : W.heap[G]? = some (.cells (dvsC knL).toArray 34 (0, 0))) (hm : Max W) : Calls Tryz.prog 16 #[.agg #[.slice (some ⟨G, 0, none⟩) 4 4]] W fun e w' => e = .returned (.int .i64 0) ∧ Kp [] W w' := by
 have h := checkTree_any (.slice (some ⟨G, 0, none⟩) 4 4) knL W kn_cok (kn_has hG) hm
 rw [kn_chk] at h
 exact h
set_option maxRecDepth 100000 in
set_option maxHeartbeats 4000000 in
theorem known_any (w : World) (hm : Max w) : Calls Tryz.prog 12 #[] w fun e w' => e = .returned (.bool true) ∧ Kp [] w w' := by
 obtain ⟨G, hG⟩ : ∃ G, w.heap.size = G := ⟨_, rfl⟩
 obtain ⟨W0, hW⟩ : ∃ W0, (w.alloc (.cells (dvsC knL).toArray 34)).alloc (.cells #[.slice (some ⟨G, 0, none⟩) 4 4] 29) = W0 := ⟨_, rfl⟩
 have hk0 : Kp [] w W0 := by rw [← hW]; exact ((Kp.refl [] w).alloc _).alloc _
 have hg0 : W0.heap[G]? = some (.cells (dvsC knL).toArray 34 (0, 0)) := by rw [← hW, ← hG]; exact heap_alloc2_old w _ _
 have ht0 : W0.heap[G + 1]? = some (.cells #[.slice (some ⟨G, 0, none⟩) 4 4] 29 (0, 0)) := by
  have := heap_alloc_last (w.alloc (.cells (dvsC knL).toArray 34)) (.cells #[.slice (some ⟨G, 0, none⟩) 4 4] 29)
  rw [hW, World.size_alloc, hG] at this
  exact this
 have HG := Lib.hid fun W (h : Kp [] W0 W) => (h.block G (block_lt hg0) (by simp)).trans hg0
 have HT := Lib.hid fun W (h : Kp [] W0 W) => cell_one ((h.block (G + 1) (block_lt ht0) (by simp)).trans ht0)
 have HK0 := Lib.hid hk0
 have HM := Lib.hid fun W (h : Kp [] W0 W) => (hm.kp hk0).kp h
 have HW := Lib.hid hW
 clear hk0 hg0 ht0 hm hW
 go_enter Tryz.func12, Tryz.ntmps12
 go_upto_region 2 with fail
 have hW := HW.out
 unfold dvsC knL dvC at hW
 simp only [List.flatMap_cons, List.flatMap_nil, List.append_nil, List.cons_append, List.nil_append] at hW
 rw [hW]
 clear hW
 have t0 := HT.out W0 (Kp.refl [] W0)
 go_upto_region 3 with (go_at_call 30; refine Calls.mono (by with_reducible exact kn30 (HG.out _ (Kp.refl [] W0))) ?_; rintro e W1 ⟨rfl, hk1⟩; have HK1 := Lib.hid hk1; clear hk1)
 have t1 := HT.out _ HK1.out
 clear t0
 go_upto_region 4 with (go_at_call 31; refine Calls.mono (by with_reducible exact kn31 (HG.out _ HK1.out)) ?_; rintro e W2 ⟨rfl, hk2⟩; have HK2 := Lib.hid (HK1.out.trans hk2); clear hk2)
 have t2 := HT.out _ HK2.out
 clear t1
 have H40 : Calls Tryz.prog 40 #[.agg #[.slice (some ⟨G, 0, none⟩) 4 4], .agg #[.int .i64 6, .int .i64 4, .string ⟨#[115, 100, 97]⟩, .string ⟨#[115, 100, 97]⟩, .string ⟨#[98, 108, 111, 99, 107]⟩, .string ⟨#[]⟩, .string ⟨#[]⟩, .int .i64 2, .int .i64 9, .slice none 0 0]] W2 _ := kn40 (HG.out _ HK2.out) (HM.out _ HK2.out)
 go_upto_region 5 with (go_at_call 40; refine Calls.mono (by with_reducible exact H40) ?_; rintro e W3 ⟨rfl, hk3⟩; have HK3 := Lib.hid (HK2.out.trans hk3); clear hk3)
 have t3 := HT.out _ HK3.out
 clear t2
 obtain ⟨W4, hW4⟩ : ∃ W4, W3.alloc (.cells #[.slice none 0 0] 29) = W4 := ⟨_, rfl⟩
 have hk4 : Kp [] W3 W4 := by rw [← hW4]; exact (Kp.refl [] W3).alloc _
 have HK4 := Lib.hid (HK3.out.trans hk4)
 have t4 := HT.out _ HK4.out
 clear hk4
 have H16 := kn16 (HG.out _ HK4.out) (HM.out _ HK4.out)
 go_wp2_with (go_at_call 16; refine Calls.mono (by with_reducible exact H16) ?_; rintro e W5 ⟨rfl, hk5⟩; have HK5 := Lib.hid (HK4.out.trans hk5); clear hk5)
 go_ret
 exact ⟨rfl, HK0.out.trans HK5.out⟩
end Go.Proofs.YtldcediiobfhiaaGreatDoor.De
