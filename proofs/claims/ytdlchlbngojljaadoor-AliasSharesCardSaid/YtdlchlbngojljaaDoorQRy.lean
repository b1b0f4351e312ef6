/- The reference's Common. GlobCommons: the law's walk; the reference's Common for all texts. -/
import Derived.Test.YtdlchlbngojljaaDoorQGlRX
import Derived.Test.YtdlchlbngojljaaDoorQRg
import Derived.BigRegion
namespace Go.Proofs.YtdlchlbngojljaaDoor.Gl
open Go.RowKit
theorem PAltsAt.below {w W : World} {v : Value} {L : List (List El)} (h : PAltsAt w v L) (hb : Below w.heap.size w W) : PAltsAt W v L := by
 obtain ⟨G, cap, hv, hG, hc, hrow⟩ := h
 refine ⟨G, cap, hv, Nat.lt_of_lt_of_le hG hb.size, hc, fun j a hj => ?_⟩
 obtain ⟨aj, cj, gj, h1, h2, h3, h4⟩ := hrow j a hj
 exact ⟨aj, cj, gj, (hb.cell (p := ⟨G, j, none⟩) hG).trans h1, h2, Nat.lt_of_lt_of_le h3 hb.size, h4.below hb h3⟩
theorem wpList_build_row {P : Program} {ops : Array Oper} {rest : List Oper} {o : Oper} {a : Act} {w : World} {Q : Exit → Act → World → Prop} (hg : o.guard = none) (t e : TypeId) (x : Operand) (ho : o.op = .buildSlice t 1 #[(0, x)])
  (cs : Array Value) (ie : TypeInfo) (z : Value) (hx : a.eval x = .agg cs)
  (hu : P.underlying t = some (.slice e)) (hie : P.info? e = some ie) (hz : ie.zero = some z) (hs : ie.size = cs.size) (hpos : 0 < cs.size) (hsmall : cs.size ≤ 2 ^ 24)
  (h : wpList P ops Q rest (a.put o.dst (.slice (some ⟨w.heap.size, 0, none⟩) 1 1)) (w.alloc (.cells cs e))) : wpList P ops Q (o :: rest) a w := by
 refine wpList_buildSlice hg t e 1 #[(0, x)] ho cs ie z hu hie hz (by rw [hs]; omega) (by rw [hs]; omega) ?_ h
 have hp : ((#[(0, x)] : Array (Nat × Operand)).map fun (i, x) => (i, a.eval x)).toList = (([Value.agg cs].zipIdx 0).map fun x => (x.2, x.1)) := by
  simp [hx]
 rw [hp, hs]
 have hf := Great.fill_whole hpos [Value.agg cs] ((Array.range (1 * cs.size)).map (z.cells[· % z.cells.size]!)) (fun v hv => by rw [List.mem_singleton.1 hv]; rfl) (by simp)
 rw [hf]
 congr 1
 simp [Value.cells]
/-- A row that is none of those that may have been written lies as it lay. -/
theorem PHas.grown {w w' : World} {v u : Value} {l : List Pr5} (h : PHas w v l) (hg : w.grownBy w' u.ownBlock) (hne : ∀ b, v.ownBlock = some b → u.ownBlock ≠ some b) : PHas w' v l := by
 rcases h with h | ⟨g, c, rfl, hc, hgs, hr⟩
 ·exact Or.inl h
 ·have hb := hg.block g hgs (by intro e; exact hne g rfl e.symm)
  refine Or.inr ⟨g, c, rfl, hc, Nat.lt_of_lt_of_le hgs hg.size, fun j x hx => ?_⟩
  have h1 := hr j x hx
  simp only [World.cell?, hb] at h1 ⊢
  exact h1
/-- The pairs that the reference has begun with so far. -/
def stR (a b Y : Nat) : List Pr5 := starts a Y ++ (List.range b).map fun j => ⟨a, j, 0, 0, []⟩
theorem stR_zero (a Y : Nat) : stR a 0 Y = starts a Y := by simp [stR]
theorem stR_row (a Y : Nat) : stR a Y Y = starts (a + 1) Y := (starts_row a Y).symm
theorem stR_snoc (a b Y : Nat) : stR a (b + 1) Y = stR a b Y ++ [⟨a, b, 0, 0, []⟩] := by unfold stR; rw [range_snoc, List.append_assoc]
theorem stR_len (a b Y : Nat) : (stR a b Y).length = a * Y + b := by unfold stR; rw [List.length_append, starts_length, List.length_map, List.length_range]
theorem not_final_step {x y : List (List El)} {lc : List Pr5} {i : Nat} {z : Pr5} (h : ∀ (j : Nat) u, j < i → lc[j]? = some u → ¬ Final x y u) (hz : lc[i]? = some z) (hf : ¬ Final x y z) : ∀ (j : Nat) u, j < i + 1 → lc[j]? = some u → ¬ Final x y u := fun j u hj hu => by
 rcases Nat.lt_or_ge j i with h' | h'
 ·exact h j u h' hu
 ·obtain rfl : j = i := by omega
  rw [hz] at hu
  obtain rfl := Option.some.inj hu
  exact hf
theorem PHas.row {w : World} {g n c : Nat} {l : List Pr5} (h : PHas w (.slice (some ⟨g, 0, none⟩) n c) l) : g < w.heap.size ∧ PRow w g l := by
 rcases h with ⟨h, _⟩ | ⟨g', c', h, _, hg, hr⟩
 ·cases h
 ·have e : g = g' := by simp only [Value.slice.injEq, Option.some.injEq, Addr.mk.injEq] at h; exact h.1.1
  subst e
  exact ⟨hg, hr⟩
theorem alt_sl {w W : World} {G n cap : Nat} {L : List (List El)} {j : Nat} {a : List El} (h : PAltsAt w (.slice (some ⟨G, 0, none⟩) n cap) L) (hb : Below w.heap.size w W) (hj : L[j]? = some a) : ∃ aj cj, W.cell? ⟨G, j, none⟩ = some (.slice aj a.length cj) ∧ PSl W (.slice aj a.length cj) a := by
 obtain ⟨G', cap', aj, cj, hv, hc, hs⟩ := palts_get h hb hj
 have e : G = G' := by simp only [Value.slice.injEq, Option.some.injEq, Addr.mk.injEq] at hv; exact hv.1.1
 subst e
 exact ⟨aj, cj, hc, hs⟩
theorem conv_at {b : UInt8} {W : World} {B : Nat} (h : W.cell? ⟨B, 0, none⟩ = some (.int .u8 (b.toNat : Int))) : Sem.run Tryd.prog (convert 101 9 (.slice (some ⟨B, 0, none⟩) 1 1)) W = .ok (.string ⟨#[b]⟩) W :=
 run_convert_bytes_back (P := Tryd.prog) W 101 9 5 ⟨B, 0, none⟩ 1 [b] Tryd.underlying101 Tryd.underlying5 Tryd.underlying9 (fun j hj => by
  match j, hj with
  | 0, _ =>
   rw [Addr.add_mid]
   exact h
  | n + 1, h => simp at h)
theorem step_convert {P : Program} {ops : Array Oper} {o : Oper} {a : Act} {w : World} {K : Act → World → Prop} {Q : Exit → Act → World → Prop} {E : Prop} (hg : o.guard = none) (s d : TypeId) (x : Operand) (ho : o.op = .convert s d x) (v r : Value) (hx : a.eval x = v)
  (hrun : Sem.run P (convert s d v) w = .ok r w) (h : K (a.put o.dst r) w) : if Region.wanted o (yielded ops a.tmps) = true then Oper.wp P o a w K Q else E := by
 have hw : Region.wanted o (yielded ops a.tmps) = true := by simp [Region.wanted, hg]
 rw [if_pos hw]
 unfold Oper.wp
 simp [execOp, ho, hx, hrun, Result.andThen]
 exact h
theorem step_store_row {P : Program} {ops : Array Oper} {o : Oper} {a : Act} {w : World} {K : Act → World → Prop} {Q : Exit → Act → World → Prop} {E : Prop} (hgd : o.guard = none) (ty : TypeId) (x y : Operand) (ho : o.op = .store ty x y)
  (g : Nat) (cells : Array Value) (hx : a.eval x = .pointer (some ⟨g, 0, none⟩)) (hy : a.eval y = .agg cells)
  (t : TypeId) (old : Array Value) (hg : w.heap[g]? = some (.cells old t (0, 0))) (hi : (P.info? ty).map (·.size) = some cells.size)
  (hold : old.size = cells.size) (h1 : cells.all (·.oneCell') = true) (h : K (a.put o.dst undef) (w.setRow g cells)) : if Region.wanted o (yielded ops a.tmps) = true then Oper.wp P o a w K Q else E := by
 have hw : Region.wanted o (yielded ops a.tmps) = true := by simp [Region.wanted, hgd]
 rw [if_pos hw]
 exact wp_store_row ty x y ho g cells hx hy t old hg hi hold h1 h
theorem box_of_set {w : World} {F : Nat} {z : Pr5} {cs old : Array Value} (hz : (prC z).toArray = cs) (h : w.heap[F]? = some (.cells old 96 (0, 0))) : BoxP (w.setRow F cs) F z := by
 unfold BoxP
 rw [hz]
 exact setRow_heap w F old cs 96 _ h
set_option maxHeartbeats 3000000 in
set_option maxRecDepth 100000 in
theorem refCommon_main (p q : ByteArray) (x y : List (List El)) (w : World) (hpx : altsP p.data.toList = some x) (hqy : altsP q.data.toList = some y) (hp : p.size ≤ 16) (hq : q.size ≤ 16) : Calls Tryd.prog 33 #[.string p, .string q] w (Bel (.tuple #[strOf (commonB x y), .bool (commonB x y).isSome, .int .i64 0]) w) := by
 have hx : Small 18 x := altsP_small hpx (by have := Lib.size_eq p; omega)
 have hy : Small 18 y := altsP_small hqy (by have := Lib.size_eq q; omega)
 have gx : Good x := (altsP_good hpx).2.2
 have gy : Good y := (altsP_good hqy).2.2
 have hckp := fun W => refCheck_any p W (by omega)
 have hckq := fun W => refCheck_any q W (by omega)
 rw [errP_some hpx] at hckp
 rw [errP_some hqy] at hckq
 have hpp := fun W => parse_some hpx (by omega) W
 have hpq := fun W => parse_some hqy (by omega) W
 obtain ⟨i0, hi0, hw0, hw1, hw2⟩ := info_parts info52b
 have htx : ∀ s, Com2 x y s → s.all isText = true := fun s h => by
  obtain ⟨a, ha, hm⟩ := List.any_eq_true.1 h.1
  exact mB_text (fun e he => ((gx a ha).2 e he).1) s hm
 obtain ⟨R, hR⟩ : ∃ R, commonB x y = R := ⟨_, rfl⟩
 have hfound : ∀ t, Com2 x y t → (∀ c, LeastC x y c → t = c) → t.length < never → R = some t := fun t h1 h2 h3 => by
  rw [← hR]
  exact common_result gx gy h1 h2 h3
 have hnone : (∀ c, ¬ LeastC x y c) → R = none := fun h => by
  rw [← hR]
  exact common_nothing gx gy h
 rw [hR]
 have HX := Lib.hid hx
 have HY := Lib.hid hy
 have GX := Lib.hid (show ∀ l ∈ x, ∀ e ∈ l, e.ok from fun l hl e he => ((gx l hl).2 e he).1)
 have GY := Lib.hid (show ∀ l ∈ y, ∀ e ∈ l, e.ok from fun l hl e he => ((gy l hl).2 e he).1)
 have Hckp := Lib.hid hckp
 have Hckq := Lib.hid hckq
 have Hpp := Lib.hid hpp
 have Hpq := Lib.hid hpq
 have HTX := Lib.hid htx
 have HFound := Lib.hid hfound
 have HNone := Lib.hid hnone
 have hX18 : x.length < 18 := hx.len
 have hY18 : y.length < 18 := hy.len
 clear hx hy gx gy hckp hckq hpp hpq htx hfound hnone hR hpx hqy hp hq
 go_enter Tryd.func33, Tryd.ntmps33
 go_wp2_with fail
 refine (Hckp.out _).mono ?_
 rintro e W1 ⟨rfl, hb1⟩
 have Hb1 := Lib.hid hb1
 clear hb1
 go_wp2_with fail
 refine (Hckq.out _).mono ?_
 rintro e W2 ⟨rfl, hb2⟩
 have Hb2 := Lib.hid (Hb1.out.trans (hb2.mono Hb1.out.size))
 clear hb2
 go_wp2_with fail
 refine (Hpp.out _).mono ?_
 rintro e W3 ⟨hb3, vx, rfl, hvx⟩
 obtain ⟨Gx, capx, rfl⟩ := palts_form hvx
 have Hb3 := Lib.hid (Hb2.out.trans (hb3.mono Hb2.out.size))
 have HVx3 := Lib.hid hvx
 clear hb3 hvx
 go_wp2_with fail
 refine (Hpq.out _).mono ?_
 rintro e W0 ⟨hb4, vy, rfl, hvy⟩
 obtain ⟨Gy, capy, rfl⟩ := palts_form hvy
 have HBW := Lib.hid (Hb3.out.trans (hb4.mono Hb3.out.size))
 have HVx := Lib.hid (HVx3.out.below hb4)
 have HVy := Lib.hid hvy
 clear hb4 hvy HVx3 Hb1 Hb2 Hb3
 obtain ⟨X, hX⟩ : ∃ X, x.length = X := ⟨_, rfl⟩
 obtain ⟨Y, hY⟩ : ∃ Y, y.length = Y := ⟨_, rfl⟩
 rw [hX] at HVx hX18
 rw [hY] at HVy hY18
 have HLX := Lib.hid hX
 have HLY := Lib.hid hY
 rw [hX, hY]
 clear hX hY
 go_wp2
 go_loopw [13, 14, 15] (fun s13 s14 s15 wx => ∃ (a : Nat) (v : Value), a ≤ X ∧ s13 = v ∧ s14 = .int .i64 (a : Int) ∧ wx.ownsRow W0.heap.size 96 5 v (stR a 0 Y).length (prsC (stR a 0 Y)) ∧ Below W0.heap.size W0 wx) (fun _ s14 _ _ => X - (intOf s14).toNat)
 case atStart => exact ⟨0, _, by omega, rfl, rfl, World.ownsRow_nil _ _ _ _, Below.refl _ _⟩
 case round =>
  obtain ⟨a, v0, ha, rfl, rfl, hown, hbx⟩ := hrel
  have Hown := Lib.hid hown
  have Hbx := Lib.hid hbx
  clear hown hbx
  by_cases hlt : a < X
  ·have hiz : (a : Int) < (X : Int) := by omega
   go_wp2
   go_loopw [13, 15] (fun s13 s15 wx => ∃ (b : Nat) (v : Value), b ≤ Y ∧ s13 = v ∧ s15 = .int .i64 (b : Int) ∧ wx.ownsRow W0.heap.size 96 5 v (stR a b Y).length (prsC (stR a b Y)) ∧ Below W0.heap.size W0 wx) (fun _ s15 _ => Y - (intOf s15).toNat)
   case atStart => exact ⟨0, _, by omega, rfl, rfl, Hown.out, Hbx.out⟩
   case round =>
    obtain ⟨b, v1, hb, rfl, rfl, hown, hbx⟩ := hrel
    have Hown1 := Lib.hid hown
    have Hbx1 := Lib.hid hbx
    clear hown hbx
    by_cases hlt2 : b < Y
    ·have hiz2 : (b : Int) < (Y : Int) := by omega
     have hlen : (stR a b Y).length ≤ 400 := by
      rw [stR_len]
      have : a * Y ≤ 17 * 17 := Nat.mul_le_mul (by omega) (by omega)
      omega
     go_wp2_with (first
      | (refine wpList_build_row rfl 94 96 _ rfl #[.int .i64 (a : Int), .int .i64 (b : Int), .int .i64 0, .int .i64 0, .string ⟨#[]⟩] i0 _ rfl Tryd.underlying94 hi0 hw0 (by rw [hw1]; rfl) (Nat.succ_pos 4) (by show (5 : Nat) ≤ 2 ^ 24; omega) ?_)
      | (at_builtin; refine wpList_append_own _ rfl _ _ 94 rfl W0.heap.size 96 i0 _ 5 48 Tryd.underlying94 hi0 hw0 hw1 hw2 rfl (by decide) _ (stR a b Y).length (prsC (stR a b Y)) rfl (Hown1.out.alloc _) ⟨wr.heap.size, 0, none⟩ 1 1 [.int .i64 (a : Int), .int .i64 (b : Int), .int .i64 0, .int .i64 0, .string ⟨#[]⟩] rfl rfl (pr_new wr) zc_one (by unfold maxLen; omega) (by omega) (Nat.le_trans Hbx1.out.size (by rw [World.size_alloc]; omega)) ?_; intro v2 w2 hown2 hgr2 _; have Hown2 := Lib.hid hown2; have Hgr2 := Lib.hid hgr2; clear hown2 hgr2))
     have hn : w2.ownsRow W0.heap.size 96 5 v2 (stR a (b + 1) Y).length (prsC (stR a (b + 1) Y)) := by
      rw [stR_snoc, prsC_append, List.length_append]
      exact Hown2.out
     have Hn := Lib.hid hn
     have Hb2 := Lib.hid ((Hbx1.out.alloc Hbx1.out.size (.cells #[.int .i64 (a : Int), .int .i64 (b : Int), .int .i64 0, .int .i64 0, .string ⟨#[]⟩] 96)).grown Hgr2.out (Nat.le_trans Hbx1.out.size (by rw [World.size_alloc]; omega)) (fun k hk => (Hown1.out.lt k hk).1))
     clear hn
     exact ⟨⟨b + 1, _, by omega, rfl, rfl, Hn.out, Hb2.out⟩, by simp [intOf]; omega⟩
    ·obtain rfl : b = Y := by omega
     go_wp2
     exact ⟨⟨a + 1, _, by omega, rfl, rfl, by rw [stR_zero, ← stR_row]; exact Hown1.out, Hbx1.out⟩, by simp [intOf]; omega⟩
  ·obtain rfl : a = X := by omega
   have hsS := Hown.out
   rw [stR_zero] at hsS
   have HownS := Lib.hid hsS
   clear hsS
   have Hnow := Lib.hid (PHas.of_own HownS.out rfl)
   have HrdS := Lib.hid (show RD x y 18 0 [] (starts a Y) from by rw [← HLX.out, ← HLY.out]; exact starts_rd)
   have HbS := Hbx
   clear Hown Hbx HownS
   go_wp2
   go_loopg [13, 16] 104977 (fun g s13 s16 wx => ∃ (n : Nat) (ls ln : List Pr5) (vn vs : Value), s13 = vn ∧ s16 = vs ∧ PHas wx vn ln ∧ wx.ownsRow W0.heap.size 96 5 vs ls.length (prsC ls) ∧ RD x y 18 n ls ln ∧ Below W0.heap.size W0 wx ∧ n + g = 104977)
   case atStart => exact ⟨0, [], starts a Y, _, _, rfl, rfl, Hnow.out, World.ownsRow_nil _ _ _ _, HrdS.out, HbS.out, rfl⟩
   case round =>
    clear Hnow HrdS HbS
    obtain ⟨n, ls, ln, vn, vs, rfl, rfl, hpn, hos, hrd, hbx, hng⟩ := hrel
    obtain ⟨na, nc, hnv, hnc, _⟩ := hpn.form
    obtain ⟨L, hL⟩ : ∃ L, ln.length = L := ⟨_, rfl⟩
    rw [hL] at hnv hnc
    have HLn := Lib.hid hL
    have Hos := Lib.hid hos
    have Hrd := Lib.hid hrd
    have Hbx := Lib.hid hbx
    have hnm := hrd.n_le
    rw [allK18] at hnm
    have hls := hrd.many
    rw [allK18] at hls
    have hls2 : ls.length ≤ 104976 * 104976 := Nat.le_trans hls (Nat.mul_le_mul_right _ hnm)
    have Hls2 := Lib.hid hls2
    have Hpn := Lib.hid (hnv ▸ hpn)
    have Hng := Lib.hid hng
    clear hL hos hrd hbx hls hls2 hpn
    subst hnv
    rcases Nat.eq_zero_or_pos L with hL0 | hL0
    ·subst hL0
     have hln : ln = [] := List.length_eq_zero_iff.1 HLn.out
     have hRn : R = none := HNone.out fun c hc => by
      obtain ⟨_, z, hz⟩ := Hrd.out.lev.fr c hc
      rw [hln] at hz
      cases hz.1
     have HRn := Lib.hid hRn
     clear hRn hln
     go_wp2
     go_ret3
     exact ⟨by rw [HRn.out]; rfl, HBW.out.trans (Hbx.out.mono HBW.out.size)⟩
    ·have hcall : Calls Tryd.prog 50 #[.slice (some ⟨Gx, 0, none⟩) a capx, .slice (some ⟨Gy, 0, none⟩) Y capy, .slice na L nc] wr (ClosedPost x y n ln wr) := refClosed_any x y n ln _ _ _ wr HX.out HY.out (HVx.out.below Hbx.out) (HVy.out.below Hbx.out) Hrd.out.lev.li Hrd.out.lev.snd Hpn.out
     have Hcall := Lib.hid hcall
     have hLz : (0 : Int) < (L : Int) := by omega
     clear hcall
     go_wp2_with fail
     refine Hcall.out.mono ?_
     clear Hcall
     rintro e Wa ⟨v1, lc, rfl, hp1, hb1, hcl, hf1⟩
     obtain ⟨z0, hz0⟩ : ∃ z, z ∈ ln := by
      cases hh : ln with
      | nil => have := HLn.out; rw [hh] at this; simp at this; omega
      | cons z r => exact ⟨z, List.mem_cons_self⟩
     have hlc : lc ≠ [] := fun e => by
      obtain ⟨u, hu, _⟩ := hcl.dom z0 hz0
      rw [e] at hu
      cases hu
     obtain ⟨l1, c1, rfl, hc1, hrow1⟩ := hp1.form
     obtain ⟨g1, rfl, hg1, hr1⟩ := hrow1 hlc
     have hfg : wr.heap.size ≤ g1 := hf1 g1 rfl
     have hN := snd_length HX.out HY.out hcl.li hcl.snd
     rw [allK18] at hN
     have HbA := Lib.hid (Hbx.out.trans (hb1.mono Hbx.out.size))
     have HosA := Lib.hid (ownsRow_below Hos.out hb1)
     have Hcl := Lib.hid hcl
     have Hpn1 := Lib.hid hp1
     have Hr1 := Lib.hid hr1
     have Hfg := Lib.hid hfg
     have Hsb := Lib.hid hb1.size
     have Hlne := Lib.hid (show ln ≠ [] from fun e => by rw [e] at hz0; cases hz0)
     obtain ⟨N, hNl⟩ : ∃ N, lc.length = N := ⟨_, rfl⟩
     rw [hNl] at hN hc1 Hpn1 ⊢
     have HN := Lib.hid hNl
     have Hg1 := Lib.hid hg1
     clear hcl hp1 hb1 hf1 hrow1 hlc hr1 hfg hNl hz0 hg1
     go_wp2
     go_loopw [17] (fun s17 wx => ∃ (i m : Nat), i ≤ N ∧ s17 = .int .i64 (i : Int) ∧ (∀ (j : Nat) u, j < i → lc[j]? = some u → ¬ Final x y u) ∧ wx = Wa.drewN m) (fun s17 _ => N - (intOf s17).toNat)
     case atStart => exact ⟨0, 0, by omega, rfl, fun j u h => by omega, rfl⟩
     case round =>
      obtain ⟨i, m, hi, rfl, hno, rfl⟩ := hrel
      have Hno := Lib.hid hno
      clear hno
      by_cases hlt3 : i < N
      ·have hiz : (i : Int) < (N : Int) := by omega
       obtain ⟨z, hz⟩ : ∃ z, lc[i]? = some z := ⟨lc[i]'(by rw [HN.out]; exact hlt3), List.getElem?_eq_getElem _⟩
       obtain ⟨d0, d1, d2, d3, d4⟩ := Hr1.out.at_ hz
       obtain ⟨la, lb, ha1, hb1, hila, hklb, -, -⟩ := (Hcl.out.snd z (List.mem_of_getElem? hz)).ex
       obtain ⟨ajx, cjx, gjx, hcx, -, -⟩ := alt_cell HVx.out HbA.out ha1
       obtain ⟨ajy, cjy, gjy, hcy, -, -⟩ := alt_cell HVy.out HbA.out hb1
       have hzx : (z.a : Int) < (a : Int) := by have := (List.getElem?_eq_some_iff.1 ha1).1; rw [HLX.out] at this; omega
       have hzy : (z.b : Int) < (Y : Int) := by have := (List.getElem?_eq_some_iff.1 hb1).1; rw [HLY.out] at this; omega
       have Ha1 := Lib.hid ha1
       have Hb1 := Lib.hid hb1
       have Hz := Lib.hid hz
       clear ha1 hb1 hz
       cases q0 : ((z.i : Int) == (la.length : Int)) with
       | false =>
        have Hn := Lib.hid (not_final_step Hno.out Hz.out (fun ⟨la', lb', h1, h2, e1, e2⟩ => by
         rw [Ha1.out] at h1
         obtain rfl := Option.some.inj h1
         rw [beq_eq_false_iff_ne] at q0
         omega))
        go_wp2
        go_quiet (fail)
        go_wp2
        exact ⟨⟨i + 1, _, by omega, rfl, Hn.out, rfl⟩, by simp [intOf]; omega⟩
       | true =>
        cases q1 : ((z.k : Int) == (lb.length : Int)) with
        | false =>
         have Hn := Lib.hid (not_final_step Hno.out Hz.out (fun ⟨la', lb', h1, h2, e1, e2⟩ => by
          rw [Hb1.out] at h2
          obtain rfl := Option.some.inj h2
          rw [beq_eq_false_iff_ne] at q1
          omega))
         go_wp2
         go_quiet (fail)
         go_wp2
         exact ⟨⟨i + 1, _, by omega, rfl, Hn.out, rfl⟩, by simp [intOf]; omega⟩
        | true =>
         have hfin : Final x y z := ⟨la, lb, Ha1.out, Hb1.out, by rw [beq_iff_eq] at q0; omega, by rw [beq_iff_eq] at q1; omega⟩
         have hlev := Hrd.out.lev.dom x y Hcl.out.li Hcl.out.snd Hcl.out.dom
         obtain ⟨f1, f2⟩ := hlev.found x y Hcl.out.cl Hz.out hfin (fun m u hm hu => Hno.out m u hm hu)
         have HRt := Lib.hid (HFound.out z.t f1 f2 (by rw [Hcl.out.li.len z (List.mem_of_getElem? Hz.out)]; unfold never; omega))
         clear hfin hlev f1 f2
         go_wp2
         go_quiet (fail)
         go_wp2
         go_ret3
         exact ⟨by rw [HRt.out]; rfl, HBW.out.trans ((drop_below HbA.out _).mono HBW.out.size)⟩
      ·obtain rfl : i = N := by omega
       have Hnof := Lib.hid (show ∀ z ∈ lc, ¬ Final x y z from fun z hz => by
        obtain ⟨j, hj, he⟩ := List.getElem_of_mem hz
        exact Hno.out j z (by rw [← HN.out]; exact hj) (by rw [List.getElem?_eq_getElem hj, he]))
       clear Hno
       generalize hWb : World.drewN Wa m = Wb
       have HbB := Lib.hid (show Below W0.heap.size W0 Wb from by rw [← hWb]; exact drop_below HbA.out _)
       have hosB := ownsRow_below HosA.out (drop_below (Below.refl Wa.heap.size Wa) m)
       rw [hWb] at hosB
       have HosB := Lib.hid hosB
       clear hosB
       have hrB : PRow Wb g1 lc := by rw [← hWb]; exact Hr1.out.below (drop_below (Below.refl _ _) _) Hg1.out
       have HpB := Lib.hid (show PHas Wb (.slice (some ⟨g1, 0, none⟩) i c1) lc from by rw [← hWb]; exact Hpn1.out.below (drop_below (Below.refl _ _) _))
       have Hnews := Lib.hid (show ∀ (j : Nat) u, (prsC lc)[j]? = some u → Wb.cell? ((⟨g1, 0, none⟩ : Addr).add j) = some u from fun j u hu => by
        rw [Addr.add_mid, Nat.zero_add]
        exact hrB j u hu)
       have hlen5 : (prsC lc).length = i * 5 := by rw [prsC_len, HN.out]
       have hmax : ls.length + i ≤ 104976 * 104976 + 104976 := by have := Hls2.out; omega
       have Hlen5 := Lib.hid hlen5
       have Hmax := Lib.hid hmax
       clear hWb hrB hlen5 hmax Hr1 Hpn1 HosA HbA
       go_wp2_with (at_builtin; refine wpList_append_own _ rfl _ _ 94 rfl W0.heap.size 96 i0 _ 5 48 Tryd.underlying94 hi0 hw0 hw1 hw2 rfl (by decide) _ ls.length (prsC ls) rfl HosB.out ⟨g1, 0, none⟩ i c1 (prsC lc) rfl Hlen5.out Hnews.out (prsC_one lc) (by have := Hmax.out; unfold maxLen; omega) (by have := Hmax.out; omega) HbB.out.size ?_; intro v2 w2 hown2 hgr2 _; have Hown2 := Lib.hid hown2; have Hgr2 := Lib.hid hgr2; clear hown2 hgr2)
       have HbC := Lib.hid (HbB.out.grown Hgr2.out HbB.out.size (fun k hk => (HosB.out.lt k hk).1))
       have HpC := Lib.hid (HpB.out.grown Hgr2.out (fun b hb hc => by
        have e : g1 = b := by simpa [Value.ownBlock] using hb
        have := (Hos.out.lt b hc).2
        have := Hfg.out
        omega))
       have HsC := Lib.hid (show w2.ownsRow W0.heap.size 96 5 v2 (ls ++ lc).length (prsC (ls ++ lc)) from by
        have := Hown2.out
        rw [prsC_append, List.length_append, HN.out]
        exact this)
       have HpS := Lib.hid (PHas.of_own HsC.out rfl)
       have hmaxS : (ls ++ lc).length ≤ 1000000000000 := by rw [List.length_append, HN.out]; have := Hmax.out; omega
       have HmaxS := Lib.hid hmaxS
       clear Hown2 Hgr2 hmaxS
       obtain ⟨hgC, hrC⟩ := HpC.out.row
       have HgC := Lib.hid hgC
       have HrC := Lib.hid hrC
       clear hgC hrC
       go_loopw [18, 19] (fun s18 s19 wx => ∃ (j : Nat) (m : List Pr5) (v : Value), j ≤ i ∧ s18 = v ∧ s19 = .int .i64 (j : Int) ∧ PHas wx v m ∧ NX x y n lc (ls ++ lc) j 32 m ∧ Below w2.heap.size w2 wx) (fun _ s19 _ => i - (intOf s19).toNat)
       case atStart => exact ⟨0, [], .slice none 0 0, by omega, rfl, rfl, Or.inl ⟨rfl, rfl⟩, NX.start _ _ _ _ _, Below.refl _ _⟩
       case round =>
        obtain ⟨j, mm, v3, hj, rfl, rfl, hpm, hnx, hbx3⟩ := hrel
        have Hpm := Lib.hid hpm
        have Hnx := Lib.hid hnx
        have Hbx3 := Lib.hid hbx3
        clear hpm hnx hbx3
        by_cases hlt4 : j < i
        ·have hiz4 : (j : Int) < (i : Int) := by omega
         go_wp2
         go_loopw [18, 20] (fun s18 s20 wx => ∃ (c : Nat) (m : List Pr5) (v : Value), 32 ≤ c ∧ c ≤ 127 ∧ s18 = v ∧ s20 = .int .u8 (c : Int) ∧ PHas wx v m ∧ NX x y n lc (ls ++ lc) j c m ∧ Below w2.heap.size w2 wx) (fun _ s20 _ => 127 - (intOf s20).toNat)
         case atStart => exact ⟨32, mm, _, by omega, by omega, rfl, rfl, Hpm.out, Hnx.out, Hbx3.out⟩
         case round =>
          clear Hpm Hnx Hbx3
          obtain ⟨c, m1, v4, hc32, hc127, rfl, rfl, hpm, hnx, hbx4⟩ := hrel
          have Hpm := Lib.hid hpm
          have Hnx := Lib.hid hnx
          have Hbx4 := Lib.hid hbx4
          clear hpm hnx hbx4
          by_cases hle : (c : Int) ≤ 126
          ·obtain ⟨z, hz⟩ : ∃ z, lc[j]? = some z := ⟨lc[j]'(by rw [HN.out]; exact hlt4), List.getElem?_eq_getElem _⟩
           obtain ⟨la, lb, ha1, hb1, hila, hklb, -, -⟩ := (Hcl.out.snd z (List.mem_of_getElem? hz)).ex
           have hbW := HbC.out.trans (Hbx4.out.mono HbC.out.size)
           obtain ⟨ajx, cjx, hcx, hsx⟩ := alt_sl HVx.out hbW ha1
           obtain ⟨ajy, cjy, hcy, hsy⟩ := alt_sl HVy.out hbW hb1
           have hrW := HrC.out.below Hbx4.out HgC.out
           obtain ⟨d0, d1, -, -, -⟩ := hrW.at_ hz
           have hzx : (z.a : Int) < (a : Int) := by have := (List.getElem?_eq_some_iff.1 ha1).1; rw [HLX.out] at this; omega
           have hzy : (z.b : Int) < (Y : Int) := by have := (List.getElem?_eq_some_iff.1 hb1).1; rw [HLY.out] at this; omega
           have hl256 : la.length ≤ 256 := by have := HX.out.el la (List.mem_of_getElem? ha1); omega
           have hl256' : lb.length ≤ 256 := by have := HY.out.el lb (List.mem_of_getElem? hb1); omega
           obtain ⟨ch, hch⟩ : ∃ ch : UInt8, ch.toNat = c := ⟨UInt8.ofNat c, by simp; omega⟩
           have hit : isText ch = true := by
            unfold isText
            simp only [Bool.and_eq_true, decide_eq_true_eq]
            omega
           obtain ⟨i1, o1, hs1⟩ : ∃ i1 o1, stepR la z.i ch = (i1, o1) := ⟨_, _, rfl⟩
           obtain ⟨k1, o2, hs2⟩ : ∃ k1 o2, stepR lb z.k ch = (k1, o2) := ⟨_, _, rfl⟩
           have hcall1 : ∀ W, Below wr.heap.size wr W → Calls Tryd.prog 51 #[.slice ajx la.length cjx, .int .i64 (z.i : Int), .int .u8 (c : Int)] W (Bel (.tuple #[.int .i64 (i1 : Int), .bool o1]) W) := fun W hW => by
            have := refStep_any la z.i ch _ W hl256 hila hit (hsx.below hW)
            rw [hs1, hch] at this
            exact this
           have hcall2 : ∀ W, Below wr.heap.size wr W → Calls Tryd.prog 51 #[.slice ajy lb.length cjy, .int .i64 (z.k : Int), .int .u8 (c : Int)] W (Bel (.tuple #[.int .i64 (k1 : Int), .bool o2]) W) := fun W hW => by
            have := refStep_any lb z.k ch _ W hl256' hklb hit (hsy.below hW)
            rw [hs2, hch] at this
            exact this
           have Hcall1 := Lib.hid hcall1
           have Hcall2 := Lib.hid hcall2
           have Ha1 := Lib.hid ha1
           have Hb1 := Lib.hid hb1
           have Hz := Lib.hid hz
           have Hch := Lib.hid hch
           have Hit := Lib.hid hit
           have Hs1 := Lib.hid hs1
           have Hs2 := Lib.hid hs2
           have hgw : g1 < wr.heap.size := Nat.lt_of_lt_of_le HgC.out Hbx4.out.size
           have HrW := Lib.hid (fun W (hW : Below wr.heap.size wr W) => (hrW.below hW hgw).at_ hz)
           have Hgw := Lib.hid hgw
           clear hcall1 hcall2 ha1 hb1 hz hch hit hs1 hs2 hsx hsy hrW hbW hl256 hl256' hila hklb hgw
           go_wp2
           go_quiet (fail)
           generalize hW3 : World.drewN wr nq = W3
           have Hb3 := Lib.hid (show Below wr.heap.size wr W3 from by rw [← hW3]; exact drop_below (Below.refl _ _) _)
           clear hW3 d0 d1 hcx hcy
           obtain ⟨-, -, d2, -, -⟩ := HrW.out W3 Hb3.out
           go_wp2_with fail
           refine (Hcall1.out W3 Hb3.out).mono ?_
           rintro e W4 ⟨rfl, hb4⟩
           have Hb4 := Lib.hid (Hb3.out.trans (hb4.mono Hb3.out.size))
           clear hb4 d2
           obtain ⟨-, -, -, d3, -⟩ := HrW.out W4 Hb4.out
           go_wp2_with fail
           refine (Hcall2.out W4 Hb4.out).mono ?_
           rintro e W5 ⟨rfl, hb5⟩
           have Hb5 := Lib.hid (Hb4.out.trans (hb5.mono Hb4.out.size))
           clear hb5 d3
           obtain ⟨d0, d1, -, -, d4⟩ := HrW.out W5 Hb5.out
           go_wp2
           obtain ⟨zt, hzt⟩ : ∃ t, txt z.t = t := ⟨_, rfl⟩
           rw [hzt] at d4
           obtain ⟨x5, hx5⟩ : ∃ x : ByteArray, (⟨#[ch]⟩ : ByteArray) = x := ⟨_, rfl⟩
           obtain ⟨nt, hnt⟩ : ∃ t, zt ++ x5 = t := ⟨_, rfl⟩
           have hzn : (prC ⟨z.a, z.b, i1, k1, z.t ++ [ch]⟩).toArray = #[.int .i64 (z.a : Int), .int .i64 (z.b : Int), .int .i64 (i1 : Int), .int .i64 (k1 : Int), .string nt] := by
            have : txt (z.t ++ [ch]) = nt := by
             rw [← hnt, ← hzt, ← hx5]
             unfold txt
             apply ByteArray.ext
             simp
            unfold prC
            rw [this]
           have hzs : zt.size = n := by
            rw [← hzt, txt_size, Hcl.out.li.len z (List.mem_of_getElem? Hz.out)]
           have hxs : x5.size = 1 := by
            rw [← hx5]
            rfl
           have hsum : (zt.size : Int) + (x5.size : Int) ≤ 1000000 := by omega
           obtain ⟨E, hE⟩ : ∃ E, W5.heap.size = E := ⟨_, rfl⟩
           have HS := Lib.hid (show ∀ W, Below W5.heap.size W5 W → (W.cell? ⟨g1, j * 5, none⟩ = some (.int .i64 (z.a : Int)) ∧ W.cell? ⟨g1, j * 5 + 1, none⟩ = some (.int .i64 (z.b : Int)) ∧ W.cell? ⟨g1, j * 5 + 4, none⟩ = some (.string zt) ∧ Below W5.heap.size W5 W) from fun W hW => by
            obtain ⟨e0, e1, _, _, e4⟩ := HrW.out W (Hb5.out.trans (hW.mono Hb5.out.size))
            rw [hzt] at e4
            exact ⟨e0, e1, e4, hW⟩)
           have HbA1 := Lib.hid (show Below W5.heap.size W5 (W5.drew.alloc (.cells #[.int .u8 (c : Int)] 5)) from (Below.refl _ W5).drew.alloc (Nat.le_refl _) _)
           have HbA2 := Lib.hid (show Below W5.heap.size W5 ((W5.drew.alloc (.cells #[.int .u8 (c : Int)] 5)).alloc (.cells #[.int .i64 0, .int .i64 0, .int .i64 0, .int .i64 0, .string ⟨#[]⟩] 96)) from HbA1.out.alloc HbA1.out.size _)
           have HbB1 := Lib.hid (show Below W5.heap.size W5 (W5.drew.alloc (.cells #[.int .i64 0, .int .i64 0, .int .i64 0, .int .i64 0, .string ⟨#[]⟩] 96)) from (Below.refl _ W5).drew.alloc (Nat.le_refl _) _)
           have HbB2 := Lib.hid (show Below W5.heap.size W5 ((W5.drew.alloc (.cells #[.int .i64 0, .int .i64 0, .int .i64 0, .int .i64 0, .string ⟨#[]⟩] 96)).alloc (.cells #[.int .u8 (c : Int)] 5)) from HbB1.out.alloc HbB1.out.size _)
           have hd0 : W5.drew.heap.size = E := hE
           have hs1 : (W5.drew.alloc (.cells #[.int .u8 (c : Int)] 5)).heap.size = E + 1 := by rw [World.size_alloc, hd0]
           have hs2 : (W5.drew.alloc (.cells #[.int .i64 0, .int .i64 0, .int .i64 0, .int .i64 0, .string ⟨#[]⟩] 96)).heap.size = E + 1 := by rw [World.size_alloc, hd0]
           have hcA1 : (W5.drew.alloc (.cells #[.int .u8 (c : Int)] 5)).cell? ⟨E, 0, none⟩ = some (.int .u8 (ch.toNat : Int)) := by
            have := cell_of_row _ _ 0 _ _ _ (heap_alloc_last W5.drew (.cells #[.int .u8 (c : Int)] 5))
            rw [hd0] at this
            rw [this, Hch.out]
            rfl
           have hcA2 : ((W5.drew.alloc (.cells #[.int .u8 (c : Int)] 5)).alloc (.cells #[.int .i64 0, .int .i64 0, .int .i64 0, .int .i64 0, .string ⟨#[]⟩] 96)).cell? ⟨E, 0, none⟩ = some (.int .u8 (ch.toNat : Int)) := by
            rw [World.cell?_alloc_lt _ _ _ (by rw [hs1]; exact Nat.lt_succ_self E)]
            exact hcA1
           have hcB2 : ((W5.drew.alloc (.cells #[.int .i64 0, .int .i64 0, .int .i64 0, .int .i64 0, .string ⟨#[]⟩] 96)).alloc (.cells #[.int .u8 (c : Int)] 5)).cell? ⟨E + 1, 0, none⟩ = some (.int .u8 (ch.toNat : Int)) := by
            have := cell_of_row _ _ 0 _ _ _ (heap_alloc_last (W5.drew.alloc (.cells #[.int .i64 0, .int .i64 0, .int .i64 0, .int .i64 0, .string ⟨#[]⟩] 96)) (.cells #[.int .u8 (c : Int)] 5))
            rw [hs2] at this
            rw [this, Hch.out]
            rfl
           have HK1 := Lib.hid (show Sem.run Tryd.prog (convert 101 9 (.slice (some ⟨E, 0, none⟩) 1 1)) (W5.drew.alloc (.cells #[.int .u8 (c : Int)] 5)) = .ok (.string x5) (W5.drew.alloc (.cells #[.int .u8 (c : Int)] 5)) from by rw [← hx5]; exact conv_at hcA1)
           have HK2 := Lib.hid (show Sem.run Tryd.prog (convert 101 9 (.slice (some ⟨E, 0, none⟩) 1 1)) ((W5.drew.alloc (.cells #[.int .u8 (c : Int)] 5)).alloc (.cells #[.int .i64 0, .int .i64 0, .int .i64 0, .int .i64 0, .string ⟨#[]⟩] 96)) = .ok (.string x5) ((W5.drew.alloc (.cells #[.int .u8 (c : Int)] 5)).alloc (.cells #[.int .i64 0, .int .i64 0, .int .i64 0, .int .i64 0, .string ⟨#[]⟩] 96)) from by rw [← hx5]; exact conv_at hcA2)
           have HK3 := Lib.hid (show Sem.run Tryd.prog (convert 101 9 (.slice (some ⟨E + 1, 0, none⟩) 1 1)) ((W5.drew.alloc (.cells #[.int .i64 0, .int .i64 0, .int .i64 0, .int .i64 0, .string ⟨#[]⟩] 96)).alloc (.cells #[.int .u8 (c : Int)] 5)) = .ok (.string x5) ((W5.drew.alloc (.cells #[.int .i64 0, .int .i64 0, .int .i64 0, .int .i64 0, .string ⟨#[]⟩] 96)).alloc (.cells #[.int .u8 (c : Int)] 5)) from by rw [← hx5]; exact conv_at hcB2)
           have HhA := Lib.hid (show ((W5.drew.alloc (.cells #[.int .u8 (c : Int)] 5)).alloc (.cells #[.int .i64 0, .int .i64 0, .int .i64 0, .int .i64 0, .string ⟨#[]⟩] 96)).heap[E + 1]? = some (.cells #[.int .i64 0, .int .i64 0, .int .i64 0, .int .i64 0, .string ⟨#[]⟩] 96 (0, 0)) from by
            have := heap_alloc_last (W5.drew.alloc (.cells #[.int .u8 (c : Int)] 5)) (.cells #[.int .i64 0, .int .i64 0, .int .i64 0, .int .i64 0, .string ⟨#[]⟩] 96)
            rw [hs1] at this
            exact this)
           have HhB := Lib.hid (show ((W5.drew.alloc (.cells #[.int .i64 0, .int .i64 0, .int .i64 0, .int .i64 0, .string ⟨#[]⟩] 96)).alloc (.cells #[.int .u8 (c : Int)] 5)).heap[E]? = some (.cells #[.int .i64 0, .int .i64 0, .int .i64 0, .int .i64 0, .string ⟨#[]⟩] 96 (0, 0)) from by
            have h1 := heap_alloc_last W5.drew (.cells #[.int .i64 0, .int .i64 0, .int .i64 0, .int .i64 0, .string ⟨#[]⟩] 96)
            rw [hd0] at h1
            exact (((Below.refl _ (W5.drew.alloc (.cells #[.int .i64 0, .int .i64 0, .int .i64 0, .int .i64 0, .string ⟨#[]⟩] 96))).alloc (Nat.le_refl _) (.cells #[.int .u8 (c : Int)] 5)).block E (by rw [hs2]; exact Nat.lt_succ_self E)).trans h1)
           have HE0 := Lib.hid (show W5.heap.size ≤ E from Nat.le_of_eq hE)
           have HE1 := Lib.hid (show W5.heap.size ≤ E + 1 from by omega)
           have HZN := Lib.hid hzn
           have hzb : zt.size ≤ 9223372036854775806 := by omega
           clear hzn hzt hx5 hzs hsum hcA1 hcA2 hcB2 hs1 hs2 hd0
           refine wp_region_held_drew (S := fun W => (W.cell? ⟨g1, j * 5, none⟩ = some (.int .i64 (z.a : Int)) ∧ W.cell? ⟨g1, j * 5 + 1, none⟩ = some (.int .i64 (z.b : Int)) ∧ W.cell? ⟨g1, j * 5 + 4, none⟩ = some (.string zt) ∧ Below W5.heap.size W5 W)) (by kernel_rfl) (HS.out _ (Below.refl _ _).drew) (fun hHeld => ?_)
           refine wpAnyH_take (i := 0) (oi := ⟨some 167, .move (.tmp 13), 94, "ref.go:226", #[], none⟩) (v := .slice (some ⟨g1, 0, none⟩) i c1) rfl (by kernel_rfl) (by kernel_rfl) (by kernel_rfl) (fun _ _ _ h => h) (Or.inl ⟨by rfl, fun w hSw => by clear hSw; go_simp⟩) (by assumption) ?_
           try simp only [Act.put, List.setIfInBounds_toArray, List.set_cons_zero, List.set_cons_succ]
           refine wpAnyH_take (i := 1) (oi := ⟨some 168, .move (.tmp 19), 3, "ref.go:226", #[], none⟩) (v := .int .i64 (j : Int)) rfl (by kernel_rfl) (by kernel_rfl) (by kernel_rfl) (fun _ _ _ h => h) (Or.inl ⟨by rfl, fun w hSw => by clear hSw; go_simp⟩) (by assumption) ?_
           try simp only [Act.put, List.setIfInBounds_toArray, List.set_cons_zero, List.set_cons_succ]
           refine wpAnyH_take (i := 2) (oi := ⟨some 169, .indexAddr 94 (.tmp 167) (.tmp 168), 0, "ref.go:226", #[⟨0, .data⟩, ⟨1, .data⟩], none⟩) (v := .pointer (some ⟨g1, j * 5, none⟩)) rfl (by kernel_rfl) (by kernel_rfl) (by kernel_rfl) (fun _ _ _ h => h) (Or.inl ⟨by rfl, fun w hSw => by clear hSw; go_simp⟩) (by assumption) ?_
           try simp only [Act.put, List.setIfInBounds_toArray, List.set_cons_zero, List.set_cons_succ]
           refine wpAnyH_take (i := 3) (oi := ⟨some 170, .fieldAddr 96 (.tmp 169) 0, 0, "ref.go:226", #[⟨2, .data⟩], none⟩) (v := .pointer (some ⟨g1, j * 5, none⟩)) rfl (by kernel_rfl) (by kernel_rfl) (by kernel_rfl) (fun _ _ _ h => h) (Or.inl ⟨by rfl, fun w hSw => by clear hSw; go_simp⟩) (by assumption) ?_
           try simp only [Act.put, List.setIfInBounds_toArray, List.set_cons_zero, List.set_cons_succ]
           refine wpAnyH_take (i := 4) (oi := ⟨some 171, .load 3 (.tmp 170), 3, "ref.go:226", #[⟨3, .data⟩], none⟩) (v := .int .i64 (z.a : Int)) rfl (by kernel_rfl) (by kernel_rfl) (by kernel_rfl) (fun _ _ _ h => h) (Or.inl ⟨by rfl, fun w hSw => by obtain ⟨hS0, hS1, hS4, hSb⟩ := hSw; clear hSb; go_simp⟩) (by assumption) ?_
           try simp only [Act.put, List.setIfInBounds_toArray, List.set_cons_zero, List.set_cons_succ]
           refine wpAnyH_take (i := 5) (oi := ⟨some 172, .move (.tmp 13), 94, "ref.go:226", #[], none⟩) (v := .slice (some ⟨g1, 0, none⟩) i c1) rfl (by kernel_rfl) (by kernel_rfl) (by kernel_rfl) (fun _ _ _ h => h) (Or.inl ⟨by rfl, fun w hSw => by clear hSw; go_simp⟩) (by assumption) ?_
           try simp only [Act.put, List.setIfInBounds_toArray, List.set_cons_zero, List.set_cons_succ]
           refine wpAnyH_take (i := 6) (oi := ⟨some 173, .move (.tmp 19), 3, "ref.go:226", #[], none⟩) (v := .int .i64 (j : Int)) rfl (by kernel_rfl) (by kernel_rfl) (by kernel_rfl) (fun _ _ _ h => h) (Or.inl ⟨by rfl, fun w hSw => by clear hSw; go_simp⟩) (by assumption) ?_
           try simp only [Act.put, List.setIfInBounds_toArray, List.set_cons_zero, List.set_cons_succ]
           refine wpAnyH_take (i := 7) (oi := ⟨some 174, .indexAddr 94 (.tmp 172) (.tmp 173), 0, "ref.go:226", #[⟨5, .data⟩, ⟨6, .data⟩], none⟩) (v := .pointer (some ⟨g1, j * 5, none⟩)) rfl (by kernel_rfl) (by kernel_rfl) (by kernel_rfl) (fun _ _ _ h => h) (Or.inl ⟨by rfl, fun w hSw => by clear hSw; go_simp⟩) (by assumption) ?_
           try simp only [Act.put, List.setIfInBounds_toArray, List.set_cons_zero, List.set_cons_succ]
           refine wpAnyH_take (i := 8) (oi := ⟨some 175, .fieldAddr 96 (.tmp 174) 1, 0, "ref.go:226", #[⟨7, .data⟩], none⟩) (v := .pointer (some ⟨g1, j * 5 + 1, none⟩)) rfl (by kernel_rfl) (by kernel_rfl) (by kernel_rfl) (fun _ _ _ h => h) (Or.inl ⟨by rfl, fun w hSw => by clear hSw; go_simp⟩) (by assumption) ?_
           try simp only [Act.put, List.setIfInBounds_toArray, List.set_cons_zero, List.set_cons_succ]
           refine wpAnyH_take (i := 9) (oi := ⟨some 176, .load 3 (.tmp 175), 3, "ref.go:226", #[⟨8, .data⟩], none⟩) (v := .int .i64 (z.b : Int)) rfl (by kernel_rfl) (by kernel_rfl) (by kernel_rfl) (fun _ _ _ h => h) (Or.inl ⟨by rfl, fun w hSw => by obtain ⟨hS0, hS1, hS4, hSb⟩ := hSw; clear hSb; go_simp⟩) (by assumption) ?_
           try simp only [Act.put, List.setIfInBounds_toArray, List.set_cons_zero, List.set_cons_succ]
           refine wpAnyH_take (i := 10) (oi := ⟨some 177, .move (.tmp 23), 3, "ref.go:226", #[], none⟩) (v := .int .i64 (i1 : Int)) rfl (by kernel_rfl) (by kernel_rfl) (by kernel_rfl) (fun _ _ _ h => h) (Or.inl ⟨by rfl, fun w hSw => by clear hSw; go_simp⟩) (by assumption) ?_
           try simp only [Act.put, List.setIfInBounds_toArray, List.set_cons_zero, List.set_cons_succ]
           refine wpAnyH_take (i := 11) (oi := ⟨some 178, .move (.tmp 25), 3, "ref.go:226", #[], none⟩) (v := .int .i64 (k1 : Int)) rfl (by kernel_rfl) (by kernel_rfl) (by kernel_rfl) (fun _ _ _ h => h) (Or.inl ⟨by rfl, fun w hSw => by clear hSw; go_simp⟩) (by assumption) ?_
           try simp only [Act.put, List.setIfInBounds_toArray, List.set_cons_zero, List.set_cons_succ]
           refine wpAnyH_take (i := 12) (oi := ⟨some 179, .move (.tmp 13), 94, "ref.go:226", #[], none⟩) (v := .slice (some ⟨g1, 0, none⟩) i c1) rfl (by kernel_rfl) (by kernel_rfl) (by kernel_rfl) (fun _ _ _ h => h) (Or.inl ⟨by rfl, fun w hSw => by clear hSw; go_simp⟩) (by assumption) ?_
           try simp only [Act.put, List.setIfInBounds_toArray, List.set_cons_zero, List.set_cons_succ]
           refine wpAnyH_take (i := 13) (oi := ⟨some 180, .move (.tmp 19), 3, "ref.go:226", #[], none⟩) (v := .int .i64 (j : Int)) rfl (by kernel_rfl) (by kernel_rfl) (by kernel_rfl) (fun _ _ _ h => h) (Or.inl ⟨by rfl, fun w hSw => by clear hSw; go_simp⟩) (by assumption) ?_
           try simp only [Act.put, List.setIfInBounds_toArray, List.set_cons_zero, List.set_cons_succ]
           refine wpAnyH_take (i := 14) (oi := ⟨some 181, .indexAddr 94 (.tmp 179) (.tmp 180), 0, "ref.go:226", #[⟨12, .data⟩, ⟨13, .data⟩], none⟩) (v := .pointer (some ⟨g1, j * 5, none⟩)) rfl (by kernel_rfl) (by kernel_rfl) (by kernel_rfl) (fun _ _ _ h => h) (Or.inl ⟨by rfl, fun w hSw => by clear hSw; go_simp⟩) (by assumption) ?_
           try simp only [Act.put, List.setIfInBounds_toArray, List.set_cons_zero, List.set_cons_succ]
           refine wpAnyH_take (i := 15) (oi := ⟨some 182, .fieldAddr 96 (.tmp 181) 4, 0, "ref.go:226", #[⟨14, .data⟩], none⟩) (v := .pointer (some ⟨g1, j * 5 + 4, none⟩)) rfl (by kernel_rfl) (by kernel_rfl) (by kernel_rfl) (fun _ _ _ h => h) (Or.inl ⟨by rfl, fun w hSw => by clear hSw; go_simp⟩) (by assumption) ?_
           try simp only [Act.put, List.setIfInBounds_toArray, List.set_cons_zero, List.set_cons_succ]
           refine wpAnyH_take (i := 16) (oi := ⟨some 183, .load 9 (.tmp 182), 9, "ref.go:226", #[⟨15, .data⟩], none⟩) (v := .string zt) rfl (by kernel_rfl) (by kernel_rfl) (by kernel_rfl) (fun _ _ _ h => h) (Or.inl ⟨by rfl, fun w hSw => by obtain ⟨hS0, hS1, hS4, hSb⟩ := hSw; clear hSb; go_simp⟩) (by assumption) ?_
           try simp only [Act.put, List.setIfInBounds_toArray, List.set_cons_zero, List.set_cons_succ]
           refine wpAnyH_take (i := 17) (oi := ⟨some 184, .move (.tmp 20), 5, "ref.go:226", #[], none⟩) (v := .int .u8 (c : Int)) rfl (by kernel_rfl) (by kernel_rfl) (by kernel_rfl) (fun _ _ _ h => h) (Or.inl ⟨by rfl, fun w hSw => by clear hSw; go_simp⟩) (by assumption) ?_
           try simp only [Act.put, List.setIfInBounds_toArray, List.set_cons_zero, List.set_cons_succ]
           refine wpAnyH_ready (rs := [18, 22]) (by kernel_rfl) (by simp) ?_
           refine AllReadyH.cons (o := ⟨some 185, .buildSlice 101 1 #[(0, .tmp 184)], 101, "ref.go:226", #[⟨17, .data⟩], none⟩) rfl (fun K hK => ?_) (AllReadyH.cons (o := ⟨some 27, .alloc 96, 0, "ref.go:226", #[], none⟩) rfl (fun K hK => ?_) AllReadyH.nil)
           ·go_simp
            refine hK.out _ _ (HS.out _ HbA1.out) (fun hHeld => ?_)
            try simp only [Act.put, List.setIfInBounds_toArray, List.set_cons_zero, List.set_cons_succ]
            clear hK
            refine wpAnyH_ready (rs := [19, 22]) (by kernel_rfl) (by simp) ?_
            refine AllReadyH.cons (o := ⟨some 186, .convert 101 9 (.tmp 185), 9, "ref.go:226", #[⟨18, .data⟩], none⟩) rfl (fun K hK => ?_) (AllReadyH.cons (o := ⟨some 27, .alloc 96, 0, "ref.go:226", #[], none⟩) rfl (fun K hK => ?_) AllReadyH.nil)
            ·refine step_convert rfl 101 9 (.tmp 185) rfl (.slice (some ⟨E, 0, none⟩) 1 1) (.string x5) rfl HK1.out ?_
             refine hK.out _ _ (HS.out _ HbA1.out) (fun hHeld => ?_)
             try simp only [Act.put, List.setIfInBounds_toArray, List.set_cons_zero, List.set_cons_succ]
             clear hK
             refine wpAnyH_take (i := 20) (oi := ⟨some 187, .binOp .add 9 (.tmp 183) (.tmp 186) 9, 9, "ref.go:226", #[⟨16, .data⟩, ⟨19, .data⟩], none⟩) (v := .string nt) rfl (by kernel_rfl) (by kernel_rfl) (by kernel_rfl) (fun _ _ _ h => h) (Or.inl ⟨by rfl, fun w hSw => by clear hSw; go_simp⟩) (by assumption) ?_
             try simp only [Act.put, List.setIfInBounds_toArray, List.set_cons_zero, List.set_cons_succ]
             refine wpAnyH_take (i := 21) (oi := ⟨some 188, .build 96 #[(0, .tmp 171), (1, .tmp 176), (2, .tmp 177), (3, .tmp 178), (4, .tmp 187)], 96, "ref.go:226", #[⟨4, .data⟩, ⟨9, .data⟩, ⟨10, .data⟩, ⟨11, .data⟩, ⟨20, .data⟩], none⟩) (v := .agg #[.int .i64 (z.a : Int), .int .i64 (z.b : Int), .int .i64 (i1 : Int), .int .i64 (k1 : Int), .string nt]) rfl (by kernel_rfl) (by kernel_rfl) (by kernel_rfl) (fun _ _ _ h => h) (Or.inl ⟨by rfl, fun w hSw => by clear hSw; go_simp⟩) (by assumption) ?_
             try simp only [Act.put, List.setIfInBounds_toArray, List.set_cons_zero, List.set_cons_succ]
             refine wpAnyH_ready (rs := [22]) (by kernel_rfl) (by simp) ?_
             refine AllReadyH.cons (o := ⟨some 27, .alloc 96, 0, "ref.go:226", #[], none⟩) rfl (fun K hK => ?_) AllReadyH.nil
             go_simp
             refine hK.out _ _ (HS.out _ HbA2.out) (fun hHeld => ?_)
             try simp only [Act.put, List.setIfInBounds_toArray, List.set_cons_zero, List.set_cons_succ]
             clear hK
             refine wpAnyH_ready (rs := [23]) (by kernel_rfl) (by simp) ?_
             refine AllReadyH.cons (o := ⟨none, .store 96 (.tmp 27) (.tmp 188), 0, "ref.go:226", #[⟨22, .data⟩, ⟨21, .data⟩, ⟨0, .phase⟩, ⟨1, .phase⟩, ⟨2, .phase⟩, ⟨3, .phase⟩, ⟨4, .phase⟩, ⟨5, .phase⟩, ⟨6, .phase⟩, ⟨7, .phase⟩, ⟨8, .phase⟩, ⟨9, .phase⟩, ⟨10, .phase⟩, ⟨11, .phase⟩, ⟨12, .phase⟩, ⟨13, .phase⟩, ⟨14, .phase⟩, ⟨15, .phase⟩, ⟨16, .phase⟩, ⟨17, .phase⟩, ⟨18, .phase⟩, ⟨19, .phase⟩, ⟨20, .phase⟩, ⟨21, .phase⟩, ⟨22, .phase⟩], none⟩) rfl (fun K hK => ?_) AllReadyH.nil
             refine step_store_row rfl 96 (.tmp 27) (.tmp 188) rfl (E + 1) #[.int .i64 (z.a : Int), .int .i64 (z.b : Int), .int .i64 (i1 : Int), .int .i64 (k1 : Int), .string nt] rfl rfl 96 _ HhA.out info52c rfl (by simp [Value.oneCell']) ?_
             refine hK.out _ _ (HS.out _ (below_setRow HbA2.out HE1.out #[.int .i64 (z.a : Int), .int .i64 (z.b : Int), .int .i64 (i1 : Int), .int .i64 (k1 : Int), .string nt])) (fun hHeld => ?_)
             try simp only [Act.put]
             clear hK
             refine wpAnyH_done (by kernel_rfl) ?_ _
             generalize hw6 : World.setRow _ _ _ = W6
             have HB6 := Lib.hid (show BoxP W6 (E + 1) ⟨z.a, z.b, i1, k1, z.t ++ [ch]⟩ from by
              rw [← hw6]
              exact box_of_set HZN.out (HhA.out : ((W5.drew.alloc (.cells #[.int .u8 (c : Int)] 5)).alloc (.cells #[.int .i64 0, .int .i64 0, .int .i64 0, .int .i64 0, .string ⟨#[]⟩] 96)).heap[(E + 1)]? = some (.cells #[.int .i64 0, .int .i64 0, .int .i64 0, .int .i64 0, .string ⟨#[]⟩] 96 (0, 0))))
             have Hb56 := Lib.hid (show Below W5.heap.size W5 W6 from by
              rw [← hw6]
              exact below_setRow HbA2.out HE1.out #[.int .i64 (z.a : Int), .int .i64 (z.b : Int), .int .i64 (i1 : Int), .int .i64 (k1 : Int), .string nt])
             have Hb6 := Lib.hid (show Below w2.heap.size w2 W6 from by
              rw [← hw6]
              exact Hbx4.out.trans ((Hb5.out.trans ((below_setRow HbA2.out HE1.out #[.int .i64 (z.a : Int), .int .i64 (z.b : Int), .int .i64 (i1 : Int), .int .i64 (k1 : Int), .string nt]).mono Hb5.out.size)).mono Hbx4.out.size))
             clear hw6 hE
             obtain ⟨F, hF⟩ : ∃ F, (E + 1) = F := ⟨_, rfl⟩
             rw [hF] at HB6 ⊢
             clear hF
             have Hpm6 := Lib.hid (Hpm.out.below (Hb5.out.trans (Hb56.out.mono Hb5.out.size)))
             cases o1 with
             | false =>
              have Hn := Lib.hid (Hnx.out.skip Hz.out Ha1.out Hb1.out fun ch' i' k' h0 h1 h2 => by
               obtain rfl : ch' = ch := UInt8.toNat_inj.1 (by rw [h0, Hch.out])
               rw [Hs1.out] at h1
               cases h1)
              go_wp2
              exact ⟨⟨c + 1, m1, _, by omega, by omega, rfl, rfl, Hpm6.out, Hn.out, Hb6.out⟩, by simp [intOf]; omega⟩
             | true =>
              cases o2 with
              | false =>
               have Hn := Lib.hid (Hnx.out.skip Hz.out Ha1.out Hb1.out fun ch' i' k' h0 h1 h2 => by
                obtain rfl : ch' = ch := UInt8.toNat_inj.1 (by rw [h0, Hch.out])
                rw [Hs2.out] at h2
                cases h2)
               go_wp2
               exact ⟨⟨c + 1, m1, _, by omega, by omega, rfl, rfl, Hpm6.out, Hn.out, Hb6.out⟩, by simp [intOf]; omega⟩
              | true =>
               have hbox := HB6.out
               have c0 := cell_of_row W6 F 0 _ _ _ hbox
               have c1' := cell_of_row W6 F 1 _ _ _ hbox
               have c2 := cell_of_row W6 F 2 _ _ _ hbox
               have c3 := cell_of_row W6 F 3 _ _ _ hbox
               have c4 := cell_of_row W6 F 4 _ _ _ hbox
               rw [HZN.out] at c0 c1' c2 c3 c4
               simp only [List.getElem?_toArray, List.getElem?_cons_zero, List.getElem?_cons_succ] at c0 c1' c2 c3 c4
               clear hbox
               have hpv : prV ⟨z.a, z.b, i1, k1, z.t ++ [ch]⟩ = .agg #[.int .i64 (z.a : Int), .int .i64 (z.b : Int), .int .i64 (i1 : Int), .int .i64 (k1 : Int), .string nt] := congrArg Value.agg HZN.out
               obtain ⟨hb, hhb⟩ : ∃ b, hasF (ls ++ lc) ⟨z.a, z.b, i1, k1, z.t ++ [ch]⟩ = b := ⟨_, rfl⟩
               have hcall3 := refHas_any (ls ++ lc) ⟨z.a, z.b, i1, k1, z.t ++ [ch]⟩ _ W6 HmaxS.out (HpS.out.below Hb6.out)
               rw [hhb, hpv] at hcall3
               have Hcall3 := Lib.hid hcall3
               have Hpv := Lib.hid hpv
               have hhp := hhb
               rw [hasF_eq] at hhp
               have Hhp := Lib.hid hhp
               clear hcall3 hpv hhb hhp
               go_wp2_with fail
               refine Hcall3.out.mono ?_
               rintro e W7 ⟨rfl, hb7⟩
               clear c0 c1' c2 c3 c4
               have Hb7 := Lib.hid (Hb6.out.trans (hb7.mono Hb6.out.size))
               have Hpm7 := Lib.hid (Hpm6.out.below hb7)
               have HB7 := Lib.hid (show W7.heap[F]? = some (.cells #[.int .i64 (z.a : Int), .int .i64 (z.b : Int), .int .i64 (i1 : Int), .int .i64 (k1 : Int), .string nt] 96 (0, 0)) from by
                have := HB6.out.below hb7 HB6.out.lt
                unfold BoxP at this
                rw [HZN.out] at this
                exact this)
               clear hb7
               cases hb with
               | true =>
                have Hn := Lib.hid (Hnx.out.skip Hz.out Ha1.out Hb1.out fun ch' i' k' h0 h1 h2 => by
                 obtain rfl : ch' = ch := UInt8.toNat_inj.1 (by rw [h0, Hch.out])
                 rw [Hs1.out] at h1
                 obtain ⟨rfl, _⟩ := Prod.mk.inj h1
                 rw [Hs2.out] at h2
                 obtain ⟨rfl, _⟩ := Prod.mk.inj h2
                 exact Hhp.out)
                go_wp2
                exact ⟨⟨c + 1, m1, _, by omega, by omega, rfl, rfl, Hpm7.out, Hn.out, Hb7.out⟩, by simp [intOf]; omega⟩
               | false =>
                have hml := snd_length HX.out HY.out Hnx.out.li Hnx.out.snd
                rw [allK18] at hml
                have hput := refPut_any m1 ⟨z.a, z.b, i1, k1, z.t ++ [ch]⟩ _ (n + 1) W7 (by omega) Hnx.out.li (by show (z.t ++ [ch]).length = n + 1; rw [List.length_append, Hcl.out.li.len z (List.mem_of_getElem? Hz.out)]; rfl) Hpm7.out
                rw [Hpv.out] at hput
                have Hput := Lib.hid hput
                have Hn := Lib.hid (Hnx.out.take GX.out GY.out Hcl.out.li Hcl.out.snd Hz.out Ha1.out Hb1.out Hch.out Hit.out Hs1.out Hs2.out Hhp.out)
                clear hput hml
                go_wp2_with (refine wpList_load_row rfl 96 _ rfl F rfl 96 #[.int .i64 (z.a : Int), .int .i64 (z.b : Int), .int .i64 (i1 : Int), .int .i64 (k1 : Int), .string nt] (0, 0) _ HB7.out Tryd.underlying96 rfl info52c ?_)
                refine Hput.out.mono ?_
                rintro e W8 ⟨v9, rfl, hp8, hb8, -⟩
                have Hp8 := Lib.hid hp8
                have Hb8 := Lib.hid (Hb7.out.trans (hb8.mono Hb7.out.size))
                clear hp8 hb8
                go_wp2
                exact ⟨⟨c + 1, _, _, by omega, by omega, rfl, rfl, Hp8.out, Hn.out, Hb8.out⟩, by simp [intOf]; omega⟩
            ·go_simp
             refine hK.out _ _ (HS.out _ HbA2.out) (fun hHeld => ?_)
             try simp only [Act.put, List.setIfInBounds_toArray, List.set_cons_zero, List.set_cons_succ]
             clear hK
             refine wpAnyH_ready (rs := [19]) (by kernel_rfl) (by simp) ?_
             refine AllReadyH.cons (o := ⟨some 186, .convert 101 9 (.tmp 185), 9, "ref.go:226", #[⟨18, .data⟩], none⟩) rfl (fun K hK => ?_) AllReadyH.nil
             refine step_convert rfl 101 9 (.tmp 185) rfl (.slice (some ⟨E, 0, none⟩) 1 1) (.string x5) rfl HK2.out ?_
             refine hK.out _ _ (HS.out _ HbA2.out) (fun hHeld => ?_)
             try simp only [Act.put, List.setIfInBounds_toArray, List.set_cons_zero, List.set_cons_succ]
             clear hK
             refine wpAnyH_take (i := 20) (oi := ⟨some 187, .binOp .add 9 (.tmp 183) (.tmp 186) 9, 9, "ref.go:226", #[⟨16, .data⟩, ⟨19, .data⟩], none⟩) (v := .string nt) rfl (by kernel_rfl) (by kernel_rfl) (by kernel_rfl) (fun _ _ _ h => h) (Or.inl ⟨by rfl, fun w hSw => by clear hSw; go_simp⟩) (by assumption) ?_
             try simp only [Act.put, List.setIfInBounds_toArray, List.set_cons_zero, List.set_cons_succ]
             refine wpAnyH_take (i := 21) (oi := ⟨some 188, .build 96 #[(0, .tmp 171), (1, .tmp 176), (2, .tmp 177), (3, .tmp 178), (4, .tmp 187)], 96, "ref.go:226", #[⟨4, .data⟩, ⟨9, .data⟩, ⟨10, .data⟩, ⟨11, .data⟩, ⟨20, .data⟩], none⟩) (v := .agg #[.int .i64 (z.a : Int), .int .i64 (z.b : Int), .int .i64 (i1 : Int), .int .i64 (k1 : Int), .string nt]) rfl (by kernel_rfl) (by kernel_rfl) (by kernel_rfl) (fun _ _ _ h => h) (Or.inl ⟨by rfl, fun w hSw => by clear hSw; go_simp⟩) (by assumption) ?_
             try simp only [Act.put, List.setIfInBounds_toArray, List.set_cons_zero, List.set_cons_succ]
             refine wpAnyH_ready (rs := [23]) (by kernel_rfl) (by simp) ?_
             refine AllReadyH.cons (o := ⟨none, .store 96 (.tmp 27) (.tmp 188), 0, "ref.go:226", #[⟨22, .data⟩, ⟨21, .data⟩, ⟨0, .phase⟩, ⟨1, .phase⟩, ⟨2, .phase⟩, ⟨3, .phase⟩, ⟨4, .phase⟩, ⟨5, .phase⟩, ⟨6, .phase⟩, ⟨7, .phase⟩, ⟨8, .phase⟩, ⟨9, .phase⟩, ⟨10, .phase⟩, ⟨11, .phase⟩, ⟨12, .phase⟩, ⟨13, .phase⟩, ⟨14, .phase⟩, ⟨15, .phase⟩, ⟨16, .phase⟩, ⟨17, .phase⟩, ⟨18, .phase⟩, ⟨19, .phase⟩, ⟨20, .phase⟩, ⟨21, .phase⟩, ⟨22, .phase⟩], none⟩) rfl (fun K hK => ?_) AllReadyH.nil
             refine step_store_row rfl 96 (.tmp 27) (.tmp 188) rfl (E + 1) #[.int .i64 (z.a : Int), .int .i64 (z.b : Int), .int .i64 (i1 : Int), .int .i64 (k1 : Int), .string nt] rfl rfl 96 _ HhA.out info52c rfl (by simp [Value.oneCell']) ?_
             refine hK.out _ _ (HS.out _ (below_setRow HbA2.out HE1.out #[.int .i64 (z.a : Int), .int .i64 (z.b : Int), .int .i64 (i1 : Int), .int .i64 (k1 : Int), .string nt])) (fun hHeld => ?_)
             try simp only [Act.put]
             clear hK
             refine wpAnyH_done (by kernel_rfl) ?_ _
             generalize hw6 : World.setRow _ _ _ = W6
             have HB6 := Lib.hid (show BoxP W6 (E + 1) ⟨z.a, z.b, i1, k1, z.t ++ [ch]⟩ from by
              rw [← hw6]
              exact box_of_set HZN.out (HhA.out : ((W5.drew.alloc (.cells #[.int .u8 (c : Int)] 5)).alloc (.cells #[.int .i64 0, .int .i64 0, .int .i64 0, .int .i64 0, .string ⟨#[]⟩] 96)).heap[(E + 1)]? = some (.cells #[.int .i64 0, .int .i64 0, .int .i64 0, .int .i64 0, .string ⟨#[]⟩] 96 (0, 0))))
             have Hb56 := Lib.hid (show Below W5.heap.size W5 W6 from by
              rw [← hw6]
              exact below_setRow HbA2.out HE1.out #[.int .i64 (z.a : Int), .int .i64 (z.b : Int), .int .i64 (i1 : Int), .int .i64 (k1 : Int), .string nt])
             have Hb6 := Lib.hid (show Below w2.heap.size w2 W6 from by
              rw [← hw6]
              exact Hbx4.out.trans ((Hb5.out.trans ((below_setRow HbA2.out HE1.out #[.int .i64 (z.a : Int), .int .i64 (z.b : Int), .int .i64 (i1 : Int), .int .i64 (k1 : Int), .string nt]).mono Hb5.out.size)).mono Hbx4.out.size))
             clear hw6 hE
             obtain ⟨F, hF⟩ : ∃ F, (E + 1) = F := ⟨_, rfl⟩
             rw [hF] at HB6 ⊢
             clear hF
             have Hpm6 := Lib.hid (Hpm.out.below (Hb5.out.trans (Hb56.out.mono Hb5.out.size)))
             cases o1 with
             | false =>
              have Hn := Lib.hid (Hnx.out.skip Hz.out Ha1.out Hb1.out fun ch' i' k' h0 h1 h2 => by
               obtain rfl : ch' = ch := UInt8.toNat_inj.1 (by rw [h0, Hch.out])
               rw [Hs1.out] at h1
               cases h1)
              go_wp2
              exact ⟨⟨c + 1, m1, _, by omega, by omega, rfl, rfl, Hpm6.out, Hn.out, Hb6.out⟩, by simp [intOf]; omega⟩
             | true =>
              cases o2 with
              | false =>
               have Hn := Lib.hid (Hnx.out.skip Hz.out Ha1.out Hb1.out fun ch' i' k' h0 h1 h2 => by
                obtain rfl : ch' = ch := UInt8.toNat_inj.1 (by rw [h0, Hch.out])
                rw [Hs2.out] at h2
                cases h2)
               go_wp2
               exact ⟨⟨c + 1, m1, _, by omega, by omega, rfl, rfl, Hpm6.out, Hn.out, Hb6.out⟩, by simp [intOf]; omega⟩
              | true =>
               have hbox := HB6.out
               have c0 := cell_of_row W6 F 0 _ _ _ hbox
               have c1' := cell_of_row W6 F 1 _ _ _ hbox
               have c2 := cell_of_row W6 F 2 _ _ _ hbox
               have c3 := cell_of_row W6 F 3 _ _ _ hbox
               have c4 := cell_of_row W6 F 4 _ _ _ hbox
               rw [HZN.out] at c0 c1' c2 c3 c4
               simp only [List.getElem?_toArray, List.getElem?_cons_zero, List.getElem?_cons_succ] at c0 c1' c2 c3 c4
               clear hbox
               have hpv : prV ⟨z.a, z.b, i1, k1, z.t ++ [ch]⟩ = .agg #[.int .i64 (z.a : Int), .int .i64 (z.b : Int), .int .i64 (i1 : Int), .int .i64 (k1 : Int), .string nt] := congrArg Value.agg HZN.out
               obtain ⟨hb, hhb⟩ : ∃ b, hasF (ls ++ lc) ⟨z.a, z.b, i1, k1, z.t ++ [ch]⟩ = b := ⟨_, rfl⟩
               have hcall3 := refHas_any (ls ++ lc) ⟨z.a, z.b, i1, k1, z.t ++ [ch]⟩ _ W6 HmaxS.out (HpS.out.below Hb6.out)
               rw [hhb, hpv] at hcall3
               have Hcall3 := Lib.hid hcall3
               have Hpv := Lib.hid hpv
               have hhp := hhb
               rw [hasF_eq] at hhp
               have Hhp := Lib.hid hhp
               clear hcall3 hpv hhb hhp
               go_wp2_with fail
               refine Hcall3.out.mono ?_
               rintro e W7 ⟨rfl, hb7⟩
               clear c0 c1' c2 c3 c4
               have Hb7 := Lib.hid (Hb6.out.trans (hb7.mono Hb6.out.size))
               have Hpm7 := Lib.hid (Hpm6.out.below hb7)
               have HB7 := Lib.hid (show W7.heap[F]? = some (.cells #[.int .i64 (z.a : Int), .int .i64 (z.b : Int), .int .i64 (i1 : Int), .int .i64 (k1 : Int), .string nt] 96 (0, 0)) from by
                have := HB6.out.below hb7 HB6.out.lt
                unfold BoxP at this
                rw [HZN.out] at this
                exact this)
               clear hb7
               cases hb with
               | true =>
                have Hn := Lib.hid (Hnx.out.skip Hz.out Ha1.out Hb1.out fun ch' i' k' h0 h1 h2 => by
                 obtain rfl : ch' = ch := UInt8.toNat_inj.1 (by rw [h0, Hch.out])
                 rw [Hs1.out] at h1
                 obtain ⟨rfl, _⟩ := Prod.mk.inj h1
                 rw [Hs2.out] at h2
                 obtain ⟨rfl, _⟩ := Prod.mk.inj h2
                 exact Hhp.out)
                go_wp2
                exact ⟨⟨c + 1, m1, _, by omega, by omega, rfl, rfl, Hpm7.out, Hn.out, Hb7.out⟩, by simp [intOf]; omega⟩
               | false =>
                have hml := snd_length HX.out HY.out Hnx.out.li Hnx.out.snd
                rw [allK18] at hml
                have hput := refPut_any m1 ⟨z.a, z.b, i1, k1, z.t ++ [ch]⟩ _ (n + 1) W7 (by omega) Hnx.out.li (by show (z.t ++ [ch]).length = n + 1; rw [List.length_append, Hcl.out.li.len z (List.mem_of_getElem? Hz.out)]; rfl) Hpm7.out
                rw [Hpv.out] at hput
                have Hput := Lib.hid hput
                have Hn := Lib.hid (Hnx.out.take GX.out GY.out Hcl.out.li Hcl.out.snd Hz.out Ha1.out Hb1.out Hch.out Hit.out Hs1.out Hs2.out Hhp.out)
                clear hput hml
                go_wp2_with (refine wpList_load_row rfl 96 _ rfl F rfl 96 #[.int .i64 (z.a : Int), .int .i64 (z.b : Int), .int .i64 (i1 : Int), .int .i64 (k1 : Int), .string nt] (0, 0) _ HB7.out Tryd.underlying96 rfl info52c ?_)
                refine Hput.out.mono ?_
                rintro e W8 ⟨v9, rfl, hp8, hb8, -⟩
                have Hp8 := Lib.hid hp8
                have Hb8 := Lib.hid (Hb7.out.trans (hb8.mono Hb7.out.size))
                clear hp8 hb8
                go_wp2
                exact ⟨⟨c + 1, _, _, by omega, by omega, rfl, rfl, Hp8.out, Hn.out, Hb8.out⟩, by simp [intOf]; omega⟩
           ·go_simp
            refine hK.out _ _ (HS.out _ HbB1.out) (fun hHeld => ?_)
            try simp only [Act.put, List.setIfInBounds_toArray, List.set_cons_zero, List.set_cons_succ]
            clear hK
            refine wpAnyH_ready (rs := [18]) (by kernel_rfl) (by simp) ?_
            refine AllReadyH.cons (o := ⟨some 185, .buildSlice 101 1 #[(0, .tmp 184)], 101, "ref.go:226", #[⟨17, .data⟩], none⟩) rfl (fun K hK => ?_) AllReadyH.nil
            go_simp
            refine hK.out _ _ (HS.out _ HbB2.out) (fun hHeld => ?_)
            try simp only [Act.put, List.setIfInBounds_toArray, List.set_cons_zero, List.set_cons_succ]
            clear hK
            refine wpAnyH_ready (rs := [19]) (by kernel_rfl) (by simp) ?_
            refine AllReadyH.cons (o := ⟨some 186, .convert 101 9 (.tmp 185), 9, "ref.go:226", #[⟨18, .data⟩], none⟩) rfl (fun K hK => ?_) AllReadyH.nil
            refine step_convert rfl 101 9 (.tmp 185) rfl (.slice (some ⟨E + 1, 0, none⟩) 1 1) (.string x5) rfl HK3.out ?_
            refine hK.out _ _ (HS.out _ HbB2.out) (fun hHeld => ?_)
            try simp only [Act.put, List.setIfInBounds_toArray, List.set_cons_zero, List.set_cons_succ]
            clear hK
            refine wpAnyH_take (i := 20) (oi := ⟨some 187, .binOp .add 9 (.tmp 183) (.tmp 186) 9, 9, "ref.go:226", #[⟨16, .data⟩, ⟨19, .data⟩], none⟩) (v := .string nt) rfl (by kernel_rfl) (by kernel_rfl) (by kernel_rfl) (fun _ _ _ h => h) (Or.inl ⟨by rfl, fun w hSw => by clear hSw; go_simp⟩) (by assumption) ?_
            try simp only [Act.put, List.setIfInBounds_toArray, List.set_cons_zero, List.set_cons_succ]
            refine wpAnyH_take (i := 21) (oi := ⟨some 188, .build 96 #[(0, .tmp 171), (1, .tmp 176), (2, .tmp 177), (3, .tmp 178), (4, .tmp 187)], 96, "ref.go:226", #[⟨4, .data⟩, ⟨9, .data⟩, ⟨10, .data⟩, ⟨11, .data⟩, ⟨20, .data⟩], none⟩) (v := .agg #[.int .i64 (z.a : Int), .int .i64 (z.b : Int), .int .i64 (i1 : Int), .int .i64 (k1 : Int), .string nt]) rfl (by kernel_rfl) (by kernel_rfl) (by kernel_rfl) (fun _ _ _ h => h) (Or.inl ⟨by rfl, fun w hSw => by clear hSw; go_simp⟩) (by assumption) ?_
            try simp only [Act.put, List.setIfInBounds_toArray, List.set_cons_zero, List.set_cons_succ]
            refine wpAnyH_ready (rs := [23]) (by kernel_rfl) (by simp) ?_
            refine AllReadyH.cons (o := ⟨none, .store 96 (.tmp 27) (.tmp 188), 0, "ref.go:226", #[⟨22, .data⟩, ⟨21, .data⟩, ⟨0, .phase⟩, ⟨1, .phase⟩, ⟨2, .phase⟩, ⟨3, .phase⟩, ⟨4, .phase⟩, ⟨5, .phase⟩, ⟨6, .phase⟩, ⟨7, .phase⟩, ⟨8, .phase⟩, ⟨9, .phase⟩, ⟨10, .phase⟩, ⟨11, .phase⟩, ⟨12, .phase⟩, ⟨13, .phase⟩, ⟨14, .phase⟩, ⟨15, .phase⟩, ⟨16, .phase⟩, ⟨17, .phase⟩, ⟨18, .phase⟩, ⟨19, .phase⟩, ⟨20, .phase⟩, ⟨21, .phase⟩, ⟨22, .phase⟩], none⟩) rfl (fun K hK => ?_) AllReadyH.nil
            refine step_store_row rfl 96 (.tmp 27) (.tmp 188) rfl E #[.int .i64 (z.a : Int), .int .i64 (z.b : Int), .int .i64 (i1 : Int), .int .i64 (k1 : Int), .string nt] rfl rfl 96 _ HhB.out info52c rfl (by simp [Value.oneCell']) ?_
            refine hK.out _ _ (HS.out _ (below_setRow HbB2.out HE0.out #[.int .i64 (z.a : Int), .int .i64 (z.b : Int), .int .i64 (i1 : Int), .int .i64 (k1 : Int), .string nt])) (fun hHeld => ?_)
            try simp only [Act.put]
            clear hK
            refine wpAnyH_done (by kernel_rfl) ?_ _
            generalize hw6 : World.setRow _ _ _ = W6
            have HB6 := Lib.hid (show BoxP W6 E ⟨z.a, z.b, i1, k1, z.t ++ [ch]⟩ from by
             rw [← hw6]
             exact box_of_set HZN.out (HhB.out : ((W5.drew.alloc (.cells #[.int .i64 0, .int .i64 0, .int .i64 0, .int .i64 0, .string ⟨#[]⟩] 96)).alloc (.cells #[.int .u8 (c : Int)] 5)).heap[E]? = some (.cells #[.int .i64 0, .int .i64 0, .int .i64 0, .int .i64 0, .string ⟨#[]⟩] 96 (0, 0))))
            have Hb56 := Lib.hid (show Below W5.heap.size W5 W6 from by
             rw [← hw6]
             exact below_setRow HbB2.out HE0.out #[.int .i64 (z.a : Int), .int .i64 (z.b : Int), .int .i64 (i1 : Int), .int .i64 (k1 : Int), .string nt])
            have Hb6 := Lib.hid (show Below w2.heap.size w2 W6 from by
             rw [← hw6]
             exact Hbx4.out.trans ((Hb5.out.trans ((below_setRow HbB2.out HE0.out #[.int .i64 (z.a : Int), .int .i64 (z.b : Int), .int .i64 (i1 : Int), .int .i64 (k1 : Int), .string nt]).mono Hb5.out.size)).mono Hbx4.out.size))
            clear hw6 hE
            obtain ⟨F, hF⟩ : ∃ F, E = F := ⟨_, rfl⟩
            rw [hF] at HB6 ⊢
            clear hF
            have Hpm6 := Lib.hid (Hpm.out.below (Hb5.out.trans (Hb56.out.mono Hb5.out.size)))
            cases o1 with
            | false =>
             have Hn := Lib.hid (Hnx.out.skip Hz.out Ha1.out Hb1.out fun ch' i' k' h0 h1 h2 => by
              obtain rfl : ch' = ch := UInt8.toNat_inj.1 (by rw [h0, Hch.out])
              rw [Hs1.out] at h1
              cases h1)
             go_wp2
             exact ⟨⟨c + 1, m1, _, by omega, by omega, rfl, rfl, Hpm6.out, Hn.out, Hb6.out⟩, by simp [intOf]; omega⟩
            | true =>
             cases o2 with
             | false =>
              have Hn := Lib.hid (Hnx.out.skip Hz.out Ha1.out Hb1.out fun ch' i' k' h0 h1 h2 => by
               obtain rfl : ch' = ch := UInt8.toNat_inj.1 (by rw [h0, Hch.out])
               rw [Hs2.out] at h2
               cases h2)
              go_wp2
              exact ⟨⟨c + 1, m1, _, by omega, by omega, rfl, rfl, Hpm6.out, Hn.out, Hb6.out⟩, by simp [intOf]; omega⟩
             | true =>
              have hbox := HB6.out
              have c0 := cell_of_row W6 F 0 _ _ _ hbox
              have c1' := cell_of_row W6 F 1 _ _ _ hbox
              have c2 := cell_of_row W6 F 2 _ _ _ hbox
              have c3 := cell_of_row W6 F 3 _ _ _ hbox
              have c4 := cell_of_row W6 F 4 _ _ _ hbox
              rw [HZN.out] at c0 c1' c2 c3 c4
              simp only [List.getElem?_toArray, List.getElem?_cons_zero, List.getElem?_cons_succ] at c0 c1' c2 c3 c4
              clear hbox
              have hpv : prV ⟨z.a, z.b, i1, k1, z.t ++ [ch]⟩ = .agg #[.int .i64 (z.a : Int), .int .i64 (z.b : Int), .int .i64 (i1 : Int), .int .i64 (k1 : Int), .string nt] := congrArg Value.agg HZN.out
              obtain ⟨hb, hhb⟩ : ∃ b, hasF (ls ++ lc) ⟨z.a, z.b, i1, k1, z.t ++ [ch]⟩ = b := ⟨_, rfl⟩
              have hcall3 := refHas_any (ls ++ lc) ⟨z.a, z.b, i1, k1, z.t ++ [ch]⟩ _ W6 HmaxS.out (HpS.out.below Hb6.out)
              rw [hhb, hpv] at hcall3
              have Hcall3 := Lib.hid hcall3
              have Hpv := Lib.hid hpv
              have hhp := hhb
              rw [hasF_eq] at hhp
              have Hhp := Lib.hid hhp
              clear hcall3 hpv hhb hhp
              go_wp2_with fail
              refine Hcall3.out.mono ?_
              rintro e W7 ⟨rfl, hb7⟩
              clear c0 c1' c2 c3 c4
              have Hb7 := Lib.hid (Hb6.out.trans (hb7.mono Hb6.out.size))
              have Hpm7 := Lib.hid (Hpm6.out.below hb7)
              have HB7 := Lib.hid (show W7.heap[F]? = some (.cells #[.int .i64 (z.a : Int), .int .i64 (z.b : Int), .int .i64 (i1 : Int), .int .i64 (k1 : Int), .string nt] 96 (0, 0)) from by
               have := HB6.out.below hb7 HB6.out.lt
               unfold BoxP at this
               rw [HZN.out] at this
               exact this)
              clear hb7
              cases hb with
              | true =>
               have Hn := Lib.hid (Hnx.out.skip Hz.out Ha1.out Hb1.out fun ch' i' k' h0 h1 h2 => by
                obtain rfl : ch' = ch := UInt8.toNat_inj.1 (by rw [h0, Hch.out])
                rw [Hs1.out] at h1
                obtain ⟨rfl, _⟩ := Prod.mk.inj h1
                rw [Hs2.out] at h2
                obtain ⟨rfl, _⟩ := Prod.mk.inj h2
                exact Hhp.out)
               go_wp2
               exact ⟨⟨c + 1, m1, _, by omega, by omega, rfl, rfl, Hpm7.out, Hn.out, Hb7.out⟩, by simp [intOf]; omega⟩
              | false =>
               have hml := snd_length HX.out HY.out Hnx.out.li Hnx.out.snd
               rw [allK18] at hml
               have hput := refPut_any m1 ⟨z.a, z.b, i1, k1, z.t ++ [ch]⟩ _ (n + 1) W7 (by omega) Hnx.out.li (by show (z.t ++ [ch]).length = n + 1; rw [List.length_append, Hcl.out.li.len z (List.mem_of_getElem? Hz.out)]; rfl) Hpm7.out
               rw [Hpv.out] at hput
               have Hput := Lib.hid hput
               have Hn := Lib.hid (Hnx.out.take GX.out GY.out Hcl.out.li Hcl.out.snd Hz.out Ha1.out Hb1.out Hch.out Hit.out Hs1.out Hs2.out Hhp.out)
               clear hput hml
               go_wp2_with (refine wpList_load_row rfl 96 _ rfl F rfl 96 #[.int .i64 (z.a : Int), .int .i64 (z.b : Int), .int .i64 (i1 : Int), .int .i64 (k1 : Int), .string nt] (0, 0) _ HB7.out Tryd.underlying96 rfl info52c ?_)
               refine Hput.out.mono ?_
               rintro e W8 ⟨v9, rfl, hp8, hb8, -⟩
               have Hp8 := Lib.hid hp8
               have Hb8 := Lib.hid (Hb7.out.trans (hb8.mono Hb7.out.size))
               clear hp8 hb8
               go_wp2
               exact ⟨⟨c + 1, _, _, by omega, by omega, rfl, rfl, Hp8.out, Hn.out, Hb8.out⟩, by simp [intOf]; omega⟩
          ·obtain rfl : c = 127 := by omega
           go_wp2
           exact ⟨⟨j + 1, m1, _, by omega, rfl, rfl, Hpm.out, Hnx.out.row, Hbx4.out⟩, by simp [intOf]; omega⟩
        ·obtain rfl : j = i := by omega
         cases gk with
         | zero => have := Hng.out; omega
         | succ gk =>
          have hrd2 := Hrd.out.next HX.out HY.out GX.out GY.out HTX.out Hlne.out Hcl.out Hnof.out (by rw [HN.out]; exact Hnx.out)
          have Hrd2 := Lib.hid hrd2
          have Hos2 := Lib.hid (ownsRow_below HsC.out Hbx3.out)
          have Hb2 := Lib.hid (HbC.out.trans (Hbx3.out.mono HbC.out.size))
          clear hrd2
          go_wp2
          go_roundg gk
          case measure => omega
          case rel => exact ⟨n + 1, ls ++ lc, mm, _, _, rfl, rfl, Hpm.out, Hos2.out, Hrd2.out, Hb2.out, by have := Hng.out; omega⟩
end Go.Proofs.YtdlchlbngojljaaDoor.Gl
namespace Go.Proofs.YtdlchlbngojljaaDoor.Gl
open Go.RowKit
set_option maxHeartbeats 1000000 in
set_option maxRecDepth 100000 in
theorem refCommon_any (p q : ByteArray) (w : World) (hp : p.size ≤ 4611686018427387904) (hq : q.size ≤ 4611686018427387904) (hp16 : ∀ x, altsP p.data.toList = some x → p.size ≤ 16) (hq16 : ∀ x, altsP q.data.toList = some x → q.size ≤ 16) : Calls Tryd.prog 33 #[.string p, .string q] w (Bel (comRes p.data.toList q.data.toList) w) := by
 unfold comRes
 cases h : altsP p.data.toList with
 | none =>
  have hc := fun W => refCheck_any p W hp
  have hne2 : (errP p.data.toList != 0) = true := by
   rcases errP_none h with h1 | h1 <;> rw [h1] <;> rfl
  simp only
  generalize errP p.data.toList = E at *
  have Hc := Lib.hid hc
  clear hc h hp16 hq16
  go_enter Tryd.func33, Tryd.ntmps33
  go_wp2_with fail
  refine (Hc.out _).mono ?_
  rintro e W1 ⟨rfl, hb⟩
  go_wp2
  go_ret3
  exact ⟨rfl, hb⟩
 | some x =>
  cases h2 : altsP q.data.toList with
  | none =>
   have hc := fun W => refCheck_any p W hp
   rw [errP_some h] at hc
   have hc2 := fun W => refCheck_any q W hq
   have hne2 : (errP q.data.toList != 0) = true := by
    rcases errP_none h2 with h1 | h1 <;> rw [h1] <;> rfl
   simp only
   generalize errP q.data.toList = E at *
   have Hc := Lib.hid hc
   have Hc2 := Lib.hid hc2
   clear hc hc2 h h2 hp16 hq16
   go_enter Tryd.func33, Tryd.ntmps33
   go_wp2_with fail
   refine (Hc.out _).mono ?_
   rintro e W1 ⟨rfl, hb⟩
   have Hb := Lib.hid hb
   clear hb
   go_wp2_with fail
   refine (Hc2.out _).mono ?_
   rintro e W2 ⟨rfl, hb⟩
   go_wp2
   go_ret3
   exact ⟨rfl, Hb.out.trans (hb.mono Hb.out.size)⟩
  | some y => exact refCommon_main p q x y w h h2 (hp16 x h) (hq16 y h2)
end Go.Proofs.YtdlchlbngojljaaDoor.Gl
