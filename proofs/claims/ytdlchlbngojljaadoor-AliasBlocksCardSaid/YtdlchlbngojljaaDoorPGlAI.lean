/- leastCommon: the least text that two alternatives match. -/
import Derived.Test.YtdlchlbngojljaaDoorPGa
import Derived.Test.YtdlchlbngojljaaDoorPGh
namespace Go.Proofs.YtdlchlbngojljaaDoor.Gl
open Go.RowKit Go.Maps
/-- A row of an alternative in a world. -/
structure AltRow (w : World) (v : Value) (a : List El) (ao : Option Addr) (ca ga : Nat) : Prop where
 v : v = .slice ao a.length ca
 o : 0 < a.length → ao = some ⟨ga, 0, none⟩
 lt : ga < w.heap.size
 e : ElsAt w ga a
def lcRes (a b : List El) : Value := match leastB a b with
 | some t => .tuple #[.string ⟨t.toArray⟩, .bool true]
 | none => .tuple #[.string ByteArray.empty, .bool false]
/-- The text so far, and what is still to come. -/
structure CInv (K : SK) (a b : List El) (w : World) (S F : List (Nat × Nat)) (T : List UInt8) (vt vf : Value) (W : World) : Prop where
 s : SAt K a b W
 m : LenMap K a b W
 n : SeenMap K a b S W
 f : ∃ C, K.Sb < C ∧ W.ownsRow C 132 2 vf F.length (pairsV F)
 t : W.ownsRow (K.Sb + 1) 5 1 vt T.length (T.map u8v)
 below : Below w.heap.size w W
 fit : ∀ z ∈ F, z.1 ≤ a.length ∧ z.2 ≤ b.length
 fs : F.length ≤ S.length
/-- Where the blocks of a search lie that leastCommon makes. -/
structure Own (K : SK) (a b : List El) (w : World) : Prop where
 sb : K.Sb = w.heap.size + 2
 m1 : K.M1 = w.heap.size
 m2 : K.M2 = w.heap.size + 1
 a : K.ga < w.heap.size
 b : K.gb < w.heap.size
 t : 0 < w.heap.size
theorem Own.apart {K : SK} {a b : List El} {w : World} (h : Own K a b w) : Apart K a b := by
 obtain ⟨h1, h2, h3, h4, h5, h6⟩ := h
 exact ⟨by omega, by omega, fun _ => by omega, fun _ => by omega, fun _ => by omega, fun _ => by omega, by omega, by omega, by omega⟩
theorem Own.low {K : SK} {a b : List El} {w : World} (h : Own K a b w) {B : Nat} (hB : K.Sb < B) : Low K a b B := by
 obtain ⟨h1, h2, h3, h4, h5, h6⟩ := h
 exact ⟨hB, fun _ => by omega, fun _ => by omega, by omega, by omega, by omega⟩
theorem SAt.sb_lt {K : SK} {a b : List El} {W : World} (h : SAt K a b W) : K.Sb < W.heap.size := (Array.getElem?_eq_some_iff.1 h.blk).1
/-- While the next front is gathered. -/
structure NInv (K : SK) (a b : List El) (w Wt : World) (S G : List (Nat × Nat)) (vf : Value) (W : World) : Prop where
 s : SAt K a b W
 m : LenMap K a b W
 n : SeenMap K a b (S ++ G) W
 f : W.ownsRow Wt.heap.size 132 2 vf G.length (pairsV G)
 fr : Fr (fun k => k = K.M1 ∨ k = K.M2 ∨ Wt.heap.size ≤ k) Wt W
theorem NInv.next {K : SK} {a b : List El} {w Wt : World} (hO : Own K a b w) {S G G' : List (Nat × Nat)} {vf : Value} {W : World} {left i k : Nat} {e : Ending} {W' : World} (h : NInv K a b w Wt S G vf W) (hWt : K.Sb < Wt.heap.size)
  (hp : GPost K a b Wt.heap.size left i k W (S ++ G) G vf e W') (hG : G ++ gatherB a b left (S ++ G) i k = G') : ∃ vf', e = .returned vf' ∧ NInv K a b w Wt S G' vf' W' := by
 obtain ⟨v', rfl, hr, hm, hn, hf, hl⟩ := hp
 have hL := hO.low hWt
 have hA := hO.apart
 have hown : ∀ x, x < Wt.heap.size → vf.ownBlock ≠ some x := fun x hx e => by have := (h.f.lt x e).1; omega
 have hx : ∀ x, x < Wt.heap.size → x ≠ K.M1 → x ≠ K.M2 → ¬ XG K vf x := fun x h1 h2 h3 => by
  rintro (h4 | h4 | h4)
  ·exact h2 h4
  ·exact h3 h4
  ·exact hown x h1 h4
 refine ⟨v', rfl, h.s.fr hf (hx _ hL.s hA.s1 hA.s2) (fun h0 => hx _ (hL.a h0) (hA.a1 h0) (hA.a2 h0)) (fun h0 => hx _ (hL.b h0) (hA.b1 h0) (hA.b2 h0)) (hx _ hL.t hA.t1 hA.t2), hm, ?_, ?_, ?_⟩
 ·rw [← hG, ← List.append_assoc]; exact hn
 ·rw [← hG]; exact hr
 ·refine h.fr.trans (hf.mono fun x _ hxx => ?_)
  rcases hxx with h4 | h4 | h4
  ·exact Or.inl h4
  ·exact Or.inr (Or.inl h4)
  ·exact Or.inr (Or.inr (h.f.lt x h4).1)
theorem NInv.start {K : SK} {a b : List El} {w Wt : World} {S : List (Nat × Nat)} (hs : SAt K a b Wt) (hm : LenMap K a b Wt) (hn : SeenMap K a b S Wt) : NInv K a b w Wt S [] (.slice none 0 0) Wt :=
 ⟨hs, hm, by rw [List.append_nil]; exact hn, World.ownsRow_nil _ _ _ _, Fr.refl _ _⟩
theorem made_search {w : World} {a b : List El} {va vb : Value} {ao bo : Option Addr} {ca cb ga gb : Nat} (ha : AltRow w va a ao ca ga) (hb : AltRow w vb b bo cb gb) (hT : TabAt w) :
  ∃ K : SK, K.Sb = w.heap.size + 2 ∧ Own K a b w ∧ SAt K a b (((w.alloc (.map #[] 0)).alloc (.map #[] 0)).alloc (.cells #[va, vb, .map (some w.heap.size), .map (some (w.heap.size + 1))] 129)) ∧
   LenMap K a b (((w.alloc (.map #[] 0)).alloc (.map #[] 0)).alloc (.cells #[va, vb, .map (some w.heap.size), .map (some (w.heap.size + 1))] 129)) ∧
   SeenMap K a b [] (((w.alloc (.map #[] 0)).alloc (.map #[] 0)).alloc (.cells #[va, vb, .map (some w.heap.size), .map (some (w.heap.size + 1))] 129)) := by
 refine ⟨⟨ao, bo, ca, cb, ga, gb, w.heap.size + 2, w.heap.size, w.heap.size + 1⟩, rfl, ⟨rfl, rfl, rfl, ha.lt, hb.lt, hT.lt⟩, ?_, ?_, ?_⟩
 ·have hbl := box3_below w (.map #[] 0) (.map #[] 0) (.cells #[va, vb, .map (some w.heap.size), .map (some (w.heap.size + 1))] 129)
  refine ⟨?_, ha.o, hb.o, ha.e.below hbl ha.lt, hb.e.below hbl hb.lt, hT.below hbl⟩
  rw [box3_2, ha.v, hb.v]
 ·refine ⟨[], .map [], (PMap.made w 3 a.length b.length (gLen a b)).kept ?_⟩
  rw [box3_0]
  exact (heap_alloc_last w _).symm
 ·refine ⟨.map [], ?_⟩
  have h := PMap.made (w.alloc (.map #[] 0)) 4 a.length b.length (fun _ => .lit (.bool true))
  rw [show (w.alloc (.map #[] 0)).heap.size = w.heap.size + 1 from by simp] at h
  refine h.kept ?_
  rw [box3_1]
  have := heap_alloc_last (w.alloc (.map #[] 0)) (.map #[] 0)
  rw [show (w.alloc (.map #[] 0)).heap.size = w.heap.size + 1 from by simp] at this
  exact this.symm
theorem advB_fit (a b : List El) (left : Nat) (F : List (Nat × Nat)) : ∀ y ∈ (advB a b left F).2, y.1 ≤ a.length ∧ y.2 ≤ b.length ∧ lenP a b y.1 y.2 = left := by
 have key : ∀ (r : List (Nat × Nat)) (st : UInt8 × List (Nat × Nat)), (∀ y ∈ st.2, y.1 ≤ a.length ∧ y.2 ≤ b.length ∧ lenP a b y.1 y.2 = left) → ∀ y ∈ (r.foldl (advStep a b left) st).2, y.1 ≤ a.length ∧ y.2 ≤ b.length ∧ lenP a b y.1 y.2 = left := by
  intro r
  induction r with
  | nil => intro st h; exact h
  | cons z r ih =>
   intro st h
   rw [List.foldl_cons]
   refine ih _ fun y hy => ?_
   cases hsp : stepP a b z.1 z.2 with
   | none => rw [advStep_none hsp] at hy; exact h y hy
   | some t =>
    obtain ⟨c, i, k⟩ := t
    have hs := stepP_spec a b hsp
    unfold advStep at hy
    rw [hsp] at hy
    simp only at hy
    split at hy
    ·exact h y hy
    ·rename_i hn
     rw [not_or] at hn
     have hl := Decidable.of_not_not hn.1
     split at hy
     ·simp only [List.mem_append, List.mem_singleton] at hy
      rcases hy with hy | rfl
      ·exact h y hy
      ·exact ⟨hs.2.2.2.2.1, hs.2.2.2.2.2.1, hl⟩
     ·simp only [List.mem_singleton] at hy
      subst hy
      exact ⟨hs.2.2.2.2.1, hs.2.2.2.2.2.1, hl⟩
 exact key F (0, []) (fun y hy => by simp at hy)
theorem NInv.alloc {K : SK} {a b : List El} {w Wt : World} (_hO : Own K a b w) {S G : List (Nat × Nat)} {vf : Value} {W : World} (h : NInv K a b w Wt S G vf W) (o : Obj) : NInv K a b w Wt S G vf (W.alloc o) := by
 have hb : Below W.heap.size W (W.alloc o) := (Below.refl _ _).alloc (Nat.le_refl _) o
 exact ⟨h.s.below hb, h.m.below hb, h.n.kept (hb.block _ h.n.lt), ownsRow_below h.f hb, h.fr.trans (Fr.of_below hb)⟩
set_option maxHeartbeats 1000000 in
set_option maxRecDepth 100000 in
theorem leastCommon_any (a b : List El) (va vb : Value) (ao bo : Option Addr) (ca cb ga gb : Nat) (w : World) (ha : AltRow w va a ao ca ga) (hb : AltRow w vb b bo cb gb) (hT : TabAt w) (hal : a.length ≤ 4096) (hbl : b.length ≤ 4096) :
  Calls Tryd.prog 46 #[va, vb] w (Bel (lcRes a b) w) := by
 have hmm := @run_makeMap Tryd.prog
 obtain rfl := ha.v
 obtain rfl := hb.v
 obtain ⟨i5, hi5, hy0, hy1, hy2⟩ := info_parts info5
 obtain ⟨K, hKS, hO, hs, hm, hn⟩ := made_search ha hb hT
 have hbw := box3_below w (.map #[] 0) (.map #[] 0) (.cells #[.slice ao a.length ca, .slice bo b.length cb, .map (some w.heap.size), .map (some (w.heap.size + 1))] 129)
 have hA := hO.apart
 have Hlen := Lib.hid (fun W (h1 : SAt K a b W) (h2 : LenMap K a b W) => length_any K a b 0 0 W hA h1 h2 (Nat.zero_le _) (Nat.zero_le _) hal hbl 0 0 rfl rfl)
 rw [hKS] at Hlen
 have Hs := Lib.hid hs
 have Hm := Lib.hid hm
 have Hn := Lib.hid hn
 have Hbw := Lib.hid hbw
 have HO := Lib.hid hO
 have HA := Lib.hid hA
 clear hs hm hn hbw hO hA ha hb hT
 go_enter Tryd.func46, Tryd.ntmps46
 go_wp2_with fail
 generalize ((w.alloc (.map #[] 0)).alloc (.map #[] 0)).alloc (.cells #[.slice ao a.length ca, .slice bo b.length cb, .map (some w.heap.size), .map (some (w.heap.size + 1))] 129) = W1 at *
 refine (Hlen.out _ Hs.out Hm.out).mono ?_
 rintro e W2 ⟨rfl, hf2, hm2⟩
 have hx : ∀ x, x ≠ K.M1 → ¬ (fun k => k = K.M1) x := fun x h => h
 have hs2 := Hs.out.fr hf2 HA.out.s1 HA.out.a1 HA.out.b1 HA.out.t1
 have hn2 := Hn.out.kept (hf2.block _ Hn.out.lt (fun e => HA.out.m e.symm))
 have hb2 : Below w.heap.size w W2 := Hbw.out.trans (hf2.to_below Hbw.out.size (fun k hk => by rw [hk, HO.out.m1]; exact Nat.le_refl _))
 have hle := lenP_le_never a b 0 0
 by_cases hnev : lenP a b 0 0 = never
 ·have hv : lcRes a b = .tuple #[.string ByteArray.empty, .bool false] := by unfold lcRes leastB; rw [if_pos hnev]
  have hq : (((lenP a b 0 0 : Nat) : Int) == 1073741824) = true := by rw [hnev]; rfl
  have Hv := Lib.hid hv
  have Hb2 := Lib.hid hb2
  clear hv hb2 hs2 hn2 hf2 hm2 hnev
  go_wp2
  go_ret2
  exact ⟨by rw [Hv.out]; rfl, Hb2.out⟩
 ·obtain ⟨L, hL⟩ : ∃ L, lenP a b 0 0 = L := ⟨_, rfl⟩
  rw [hL] at hnev hle ⊢
  unfold never at hnev hle
  have hq : ((L : Int) == 1073741824) = false := by rw [beq_eq_false_iff_ne]; omega
  have hv : lcRes a b = .tuple #[.string ⟨(loopB a b L (gatherB a b L [] 0 0) (gatherB a b L [] 0 0)).toArray⟩, .bool true] := by
   unfold lcRes leastB
   rw [if_neg (by rw [hL]; exact hnev), hL]
   rfl
  have hgat := gather_any K a b W2.heap.size L 0 0 W2 [] [] (.slice none 0 0) HA.out (HO.out.low hs2.sb_lt) hs2 hm2 hn2 (World.ownsRow_nil _ _ _ _) (Nat.le_refl _) (Nat.le_refl _) (Nat.zero_le _) (Nat.zero_le _) hal hbl (by omega)
  have hfit0 : ∀ z ∈ gatherB a b L [] 0 0, z.1 ≤ a.length ∧ z.2 ≤ b.length := fun z hz => by
   have := (gatherB_spec a b L _ [] 0 0 (Nat.le_refl _) (Nat.zero_le _) (Nat.zero_le _)).2 z hz
   exact ⟨this.2.1, this.2.2.1⟩
  rw [hKS] at hgat
  have Hgat := Lib.hid hgat
  have Hv := Lib.hid hv
  have Hb2 := Lib.hid hb2
  have Hs2 := Lib.hid hs2
  have hsz2 := hs2.sb_lt
  clear hv hb2 hs2 hn2 hf2 hm2 hgat
  go_wp2_with fail
  refine Hgat.out.mono ?_
  rintro e W3 ⟨vf, rfl, hr3, hm3, hn3, hf3, hl3⟩
  rw [List.nil_append] at hr3 hn3
  have hx3 : ∀ x, XG K (.slice none 0 0) x → x = K.M1 ∨ x = K.M2 := fun x h => by
   rcases h with h | h | h
   ·exact Or.inl h
   ·exact Or.inr h
   ·simp [Value.ownBlock] at h
  have hno : ∀ x, x ≠ K.M1 → x ≠ K.M2 → ¬ XG K (.slice none 0 0) x := fun x h1 h2 h => by
   rcases hx3 x h with h | h
   ·exact h1 h
   ·exact h2 h
  have hs3 := Hs2.out.fr hf3 (hno _ HA.out.s1 HA.out.s2) (fun h => hno _ (HA.out.a1 h) (HA.out.a2 h)) (fun h => hno _ (HA.out.b1 h) (HA.out.b2 h)) (hno _ HA.out.t1 HA.out.t2)
  have hb3 : Below w.heap.size w W3 := Hb2.out.trans (hf3.to_below Hb2.out.size (fun k hk => by
   rcases hx3 k hk with h | h
   ·rw [h, HO.out.m1]; exact Nat.le_refl _
   ·rw [h, HO.out.m2]; omega))
  have hc3 : CInv K a b w (gatherB a b L [] 0 0) (gatherB a b L [] 0 0) [] (.slice none 0 0) vf W3 := ⟨hs3, hm3, hn3, ⟨_, hsz2, hr3⟩, World.ownsRow_nil _ _ _ _, hb3, hfit0, Nat.le_refl _⟩
  have Hc3 := Lib.hid hc3
  clear hr3 hm3 hn3 hf3 hl3 hs3 hb3 hc3 hx3 hno hfit0 Hs2 Hb2 Hgat
  generalize hG0 : gatherB a b L [] 0 0 = G0 at *
  go_wp2
  go_loopw [7, 8, 9] (fun s7 s8 s9 wx => ∃ (l : Nat) (S F : List (Nat × Nat)) (T : List UInt8), s7 = .int .i64 l ∧ l ≤ L ∧ T.length + l ≤ L ∧ T ++ loopB a b l F S = loopB a b L G0 G0 ∧ CInv K a b w S F T s8 s9 wx) (fun s7 _ _ _ => (intOf s7).toNat)
  case atStart => exact ⟨L, G0, G0, [], rfl, Nat.le_refl _, by simp, rfl, Hc3.out⟩
  case round =>
   obtain ⟨l, S, F, T, rfl, hlL, hTl, htext, hinv⟩ := hrel
   have Hinv := Lib.hid hinv
   clear hinv
   cases l with
   | zero =>
    have hrow := Hinv.out.t
    have hconv := run_string_owned hrow
    have htx : T = loopB a b L G0 G0 := by rw [← htext]; simp [loopB]
    have Htx := Lib.hid htx
    clear hrow htx htext
    go_wp2
    go_ret2
    exact ⟨by rw [Hv.out, ← Htx.out]; rfl, Hinv.out.below⟩
   | succ l =>
    obtain ⟨C0, hC0, hrowF⟩ := Hinv.out.f
    have hssz := Hinv.out.n.size hal hbl
    have hadv := advance_any K a b wr.heap.size l wr S F u9 HA.out (HO.out.low Hinv.out.s.sb_lt) Hinv.out.s Hinv.out.m Hinv.out.n rfl (frontAt_of hrowF) Hinv.out.fit (by have := Hinv.out.fs; omega) hal hbl (by omega)
    have hfitR := advB_fit a b l F
    have htx2 : loopB a b (l + 1) F S = (advB a b l F).1 :: loopB a b l (gatherAll a b l S (advB a b l F).2) (S ++ gatherAll a b l S (advB a b l F).2) := rfl
    rw [htx2] at htext
    clear htx2
    have hpost : ∀ e W, APost K a b S wr.heap.size l F wr e W → ∃ v, e = .returned (.tuple #[.int .u8 ((advB a b l F).1.toNat : Int), v]) ∧ AInv K a b S wr.heap.size wr (advB a b l F).2 v W := fun e W h => h
    obtain ⟨st, hst⟩ : ∃ st, advB a b l F = st := ⟨_, rfl⟩
    rw [hst] at hfitR htext
    simp only [hst] at hpost
    have hRl := advB_len a b l F
    rw [hst] at hRl
    obtain ⟨bt, R⟩ := st
    simp only at hfitR htext hpost hRl
    rw [hKS] at hadv
    have Hadv := Lib.hid hadv
    have Hpost := Lib.hid hpost
    have HfitR := Lib.hid hfitR
    have Htext := Lib.hid htext
    have hbti : (bt.toNat : Int) < 256 := by have := UInt8.toNat_lt bt; omega
    clear hadv hpost hfitR htext hst hrowF hC0
    go_wp2_with fail
    refine Hadv.out.mono ?_
    rintro e W4 hap
    obtain ⟨vr, rfl, hai⟩ := Hpost.out e W4 hap
    obtain ⟨ra, rcap, hrv⟩ := row_len hai.row
    subst hrv
    have ht4 : W4.ownsRow (K.Sb + 1) 5 1 u8 T.length (T.map u8v) := row_fr Hinv.out.t hai.fr fun g hg e => by
     have h1 := Hinv.out.t.lt g hg
     have h2 := HO.out
     rcases e with e | e
     ·have := h2.m1; have := h2.sb; omega
     ·omega
    have htlt : ∀ g, u8.ownBlock = some g → g < wr.heap.size := fun g hg => (Hinv.out.t.lt g hg).2
    have Hai := Lib.hid hai
    have Ht4 := Lib.hid ht4
    have Htlt := Lib.hid htlt
    have hszW := hai.fr.size
    have hsbW := Hinv.out.s.sb_lt
    have hRi : (R.length : Int) ≤ 16785409 := by
     have h2 := Hinv.out.fs
     omega
    clear hap hai ht4 htlt Hpost Hadv hssz
    go_wp2_with (at_builtin; refine wpList_append_own _ rfl _ _ 101 rfl (K.Sb + 1) 5 i5 _ 1 1 Tryd.underlying101 hi5 hy0 hy1 hy2 rfl (by decide) _ _ _ rfl (Ht4.out.alloc _) ⟨W4.heap.size, 0, none⟩ 1 1 [u8v bt] rfl rfl (cell_one_new _ _ _) (by simp [u8v, Value.oneCell']) (by unfold maxLen; omega) (by omega) (by simp; omega) ?_; intro vt w5 hown5 hgrow5 _; have Hown5 := Lib.hid hown5; have Hgrow5 := Lib.hid hgrow5; clear hown5 hgrow5)
    have hf5 : Fr (fun k => u8.ownBlock = some k) W4 w5 := (Fr.of_below ((Below.refl _ W4).alloc (Nat.le_refl _) _)).trans (Fr.of_grown Hgrow5.out fun k hk => hk)
    have hno : ∀ x, x < K.Sb + 1 → ¬ (u8.ownBlock = some x) := fun x hx e => by have := (Ht4.out.lt x e).1; omega
    have hOo := HO.out
    have hs5 : SAt K a b w5 := Hai.out.s.fr hf5 (hno _ (Nat.lt_succ_self _)) (fun _ => hno _ (by have := hOo.a; have := hOo.sb; omega)) (fun _ => hno _ (by have := hOo.b; have := hOo.sb; omega)) (hno _ (by have := hOo.t; have := hOo.sb; omega))
    have hm5 : LenMap K a b w5 := Hai.out.m.kept (hf5.block _ Hai.out.m.lt (hno _ (by have := hOo.m1; have := hOo.sb; omega)))
    have hn5 : SeenMap K a b S w5 := Hai.out.n.kept (hf5.block _ Hai.out.n.lt (hno _ (by have := hOo.m2; have := hOo.sb; omega)))
    have hR5 : w5.ownsRow wr.heap.size 132 2 (.slice ra R.length rcap) R.length (pairsV R) := row_fr Hai.out.row hf5 fun g hg e => by
     have h1 := (Hai.out.row.lt g hg).1
     have h2 := Htlt.out g e
     omega
    have hb5 : Below w.heap.size w w5 := (Hinv.out.below.trans (Hai.out.fr.to_below Hinv.out.below.size (fun k hk => by
     rcases hk with h | h
     ·rw [h, hOo.m1]; exact Nat.le_refl _
     ·exact Nat.le_trans Hinv.out.below.size h))).trans (hf5.to_below (Nat.le_trans Hinv.out.below.size hszW) (fun k hk => by have := (Ht4.out.lt k hk).1; have := hOo.sb; omega))
    have hsb5 := hs5.sb_lt
    have ht5 : w5.ownsRow (K.Sb + 1) 5 1 vt (T ++ [bt]).length ((T ++ [bt]).map u8v) := by
     rw [List.length_append, List.map_append]
     exact Hown5.out
    obtain ⟨fa, fcap, fg, hfv, hfa, hrows⟩ := frontAt_of hR5
    obtain ⟨rfl, _, rfl⟩ := Value.slice.inj hfv
    have hgm : ∀ (j : Nat) (z : Nat × Nat), R[j]? = some z → fg ≠ K.M1 ∧ fg ≠ K.M2 := fun j z hz => by
     obtain ⟨h1, _⟩ := hrows j z hz
     obtain ⟨S', D', hmm⟩ := hm5
     obtain ⟨D2, hnn⟩ := hn5
     obtain ⟨es, cl, hmap, _⟩ := hmm.own
     obtain ⟨es2, cl2, hmap2, _⟩ := hnn.own
     exact ⟨cell_not_map hmap h1, cell_not_map hmap2 h1⟩
    have Hs5 := Lib.hid (NInv.start (w := w) hs5 hm5 hn5)
    have Hb5 := Lib.hid hb5
    have Ht5 := Lib.hid ht5
    have Hrows := Lib.hid hrows
    have Hgm := Lib.hid hgm
    have Hfa := Lib.hid hfa
    clear hf5 hno hs5 hm5 hn5 hR5 hb5 ht5 hrows hgm hfa hfv Hai Ht4 Htlt Hown5 Hgrow5 hOo
    go_loopw [9, 42] (fun s9 s42 wx => ∃ (j : Nat), j ≤ R.length ∧ s42 = .int .i64 j ∧ NInv K a b w w5 S (gatherAll a b l S (R.take j)) s9 wx) (fun _ s42 _ => R.length - (intOf s42).toNat)
    case atStart => exact ⟨0, Nat.zero_le _, rfl, Hs5.out⟩
    case round =>
     obtain ⟨j, hj, rfl, hninv⟩ := hrel
     have Hni := Lib.hid hninv
     clear hninv
     by_cases hlt : (j : Int) < (R.length : Int)
     ·obtain ⟨z, hz⟩ : ∃ z, R[j]? = some z := ⟨R[j]'(by omega), List.getElem?_eq_getElem _⟩
      obtain ⟨rfl, hglt⟩ := Hfa.out (by omega)
      obtain ⟨hzi, hzk, _⟩ := HfitR.out z (List.mem_of_getElem? hz)
      obtain ⟨c0, c1⟩ := Hrows.out j z hz
      obtain ⟨hne1, hne2⟩ := Hgm.out j z hz
      have hxg : ¬ (fg = K.M1 ∨ fg = K.M2 ∨ w5.heap.size ≤ fg) := by
       rintro (h | h | h)
       ·exact hne1 h
       ·exact hne2 h
       ·omega
      have c0' := (Hni.out.fr.cell (p := ⟨fg, j * 2, none⟩) hglt hxg).trans c0
      have c1' := (Hni.out.fr.cell (p := ⟨fg, j * 2 + 1, none⟩) hglt hxg).trans c1
      have hstep : gatherAll a b l S (R.take j) ++ gatherB a b l (S ++ gatherAll a b l S (R.take j)) z.1 z.2 = gatherAll a b l S (R.take (j + 1)) := by
       rw [List.take_add_one, hz]
       simp only [Option.toList_some]
       rw [gatherAll_snoc]
      obtain ⟨x, y⟩ := z
      simp only at hzi hzk c0' c1' hstep
      have Hstep := Lib.hid hstep
      have L1 := Lib.hid (Hni.out.alloc HO.out (.cells #[.int .i64 (x : Int), .int .i64 (y : Int)] 132))
      have hcall := fun W v (h : NInv K a b w w5 S (gatherAll a b l S (R.take j)) v W) => gather_any K a b w5.heap.size l x y W (S ++ gatherAll a b l S (R.take j)) (gatherAll a b l S (R.take j)) v HA.out (HO.out.low hsb5) h.s h.m h.n h.f h.fr.size (by simp) hzi hzk hal hbl (by omega)
      rw [hKS] at hcall
      have Hcall := Lib.hid hcall
      clear c0 c1 hstep hcall hz
      go_wp2_with fail
      refine (Hcall.out _ _ L1.out).mono ?_
      rintro e W6 hp
      obtain ⟨vf', rfl, hn'⟩ := L1.out.next HO.out hsb5 hp Hstep.out
      have L2 := Lib.hid hn'
      clear hp hn' L1
      go_wp2
      exact ⟨⟨j + 1, by omega, rfl, L2.out⟩, by simp [intOf]; omega⟩
     ·obtain rfl : j = R.length := by omega
      rw [List.take_length] at Hni
      have hfin : CInv K a b w (S ++ gatherAll a b l S R) (gatherAll a b l S R) (T ++ [bt]) vt u9 wr := by
       have hOo := HO.out
       refine ⟨Hni.out.s, Hni.out.m, Hni.out.n, ⟨_, hsb5, Hni.out.f⟩, ?_, ?_, fun z hz => ?_, by simp⟩
       ·refine row_fr Ht5.out Hni.out.fr fun g hg e => ?_
        have h1 := Ht5.out.lt g hg
        have := hOo.m1
        have := hOo.m2
        have := hOo.sb
        rcases e with e | e | e <;> omega
       ·refine Hb5.out.trans (Hni.out.fr.to_below Hb5.out.size fun k hk => ?_)
        have := hOo.m1
        have := hOo.m2
        have := Hb5.out.size
        rcases hk with h | h | h <;> omega
       ·have := (gatherAll_spec a b l S R HfitR.out).2 z hz
        exact ⟨this.2.1, this.2.2.1⟩
      have Hfin := Lib.hid hfin
      clear hfin
      go_wp2
      exact ⟨⟨l, S ++ gatherAll a b l S R, gatherAll a b l S R, T ++ [bt], rfl, by omega, by simp; omega, by rw [← Htext.out]; simp, Hfin.out⟩, by simp [intOf]⟩
end Go.Proofs.YtdlchlbngojljaaDoor.Gl
