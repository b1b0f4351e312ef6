/- E -/
import Derived.Test.YtkkibibecgcbmaaGreatDoorQD
import Derived.WalkMore
import Derived.Deep.LoopGhost
import Derived.Lib.OthersKept
import Derived.Shelf.Strings.BuilderK
open Go.Lib renaming hid → qH
open Go.Calls renaming mono → cM
set_option maxRecDepth 100000
set_option maxHeartbeats 16000000
namespace Go.Proofs.YtkkibibecgcbmaaGreatDoor.Lx
open Go.RowKit
def tok0 : Tok := ⟨[], [], [], []⟩
def begV : Rd Tok → Value
 | .bad => .tuple #[.agg (tokC tok0), .string (bs []), .int .i64 82]
 | .cut => .tuple #[.agg (tokC tok0), .string (bs []), .int .i64 83]
 | .ok t r => .tuple #[.agg (tokC t), .string (bs r), .int .i64 0]
theorem take2 (l : List UInt8) (w : World) : Calls Tryz.prog 104 #[.string (bs l), .int .i64 2] w fun r w' => r = .returned (.tuple #[.string (bs (spanL upCh l).1), .string (bs (spanL upCh l).2)]) ∧ Kp [] w w' := by
 have h := take_any l 2 w (by decide)
 rw [inC_key] at h
 exact h
theorem take4 (l : List UInt8) (w : World) : Calls Tryz.prog 104 #[.string (bs l), .int .i64 4] w fun r w' => r = .returned (.tuple #[.string (bs (spanL nmCh l).1), .string (bs (spanL nmCh l).2)]) ∧ Kp [] w w' := by
 have h := take_any l 4 w (by decide)
 rw [inC_name] at h
 exact h
theorem take8 (l : List UInt8) (w : World) : Calls Tryz.prog 104 #[.string (bs l), .int .i64 8] w fun r w' => r = .returned (.tuple #[.string (bs (spanL opCh l).1), .string (bs (spanL opCh l).2)]) ∧ Kp [] w w' := by
 have h := take_any l 8 w (by decide)
 rw [inC_op] at h
 exact h
theorem prefix_yes (c : UInt8) (l : List UInt8) : Lib.hasPrefix (c :: l) [c] = true ∧ Lib.trimPrefix (c :: l) [c] = l := by
 have h : Lib.hasPrefix (c :: l) [c] = true := by simp [Lib.hasPrefix, List.isPrefixOf]
 exact ⟨h, by simp [Lib.trimPrefix, h]⟩
theorem prefix_no (c : UInt8) (l : List UInt8) (hl : ∀ r, l ≠ c :: r) : Lib.hasPrefix l [c] = false ∧ Lib.trimPrefix l [c] = l := by
 have h : Lib.hasPrefix l [c] = false := by
  cases l with
  | nil => rfl
  | cons b r =>
   simp only [Lib.hasPrefix, List.isPrefixOf, Bool.and_true]
   exact beq_eq_false_iff_ne.2 fun e => hl r (by rw [e])
 exact ⟨h, by simp [Lib.trimPrefix, h]⟩
theorem cutp_yes (c : UInt8) (l : List UInt8) (w : World) : Calls Tryz.prog 105 #[.string (bs (c :: l)), .string ⟨#[c]⟩] w fun r w' => r = .returned (.tuple #[.string (bs l), .bool true]) ∧ w' = w := by
 have h := Tryz.strings_CutPrefix (bs (c :: l)) ⟨#[c]⟩ w
 rw [bs_data, show (⟨#[c]⟩ : ByteArray).data.toList = [c] from rfl, (prefix_yes c l).1, (prefix_yes c l).2] at h
 exact h
theorem cutp_no (c : UInt8) (l : List UInt8) (w : World) (hl : ∀ r, l ≠ c :: r) : Calls Tryz.prog 105 #[.string (bs l), .string ⟨#[c]⟩] w fun r w' => r = .returned (.tuple #[.string (bs l), .bool false]) ∧ w' = w := by
 have h := Tryz.strings_CutPrefix (bs l) ⟨#[c]⟩ w
 rw [bs_data, show (⟨#[c]⟩ : ByteArray).data.toList = [c] from rfl, (prefix_no c l hl).1, (prefix_no c l hl).2] at h
 exact h
theorem TAt.put0 {w : World} {b : Nat} {x : Tok} (h : TAt w b x) (l : List UInt8) : TAt (w.setCell ⟨b, 0, none⟩ (.string (bs l))) b { x with key := l } := by
 unfold TAt tokC at h ⊢
 simp [World.setCell, Array.getElem?_modify, h]
theorem TAt.put1 {w : World} {b : Nat} {x : Tok} (h : TAt w b x) (l : List UInt8) : TAt (w.setCell ⟨b, 1, none⟩ (.string (bs l))) b { x with name := l } := by
 unfold TAt tokC at h ⊢
 simp [World.setCell, Array.getElem?_modify, h]
theorem TAt.put2 {w : World} {b : Nat} {x : Tok} (h : TAt w b x) (l : List UInt8) : TAt (w.setCell ⟨b, 2, none⟩ (.string (bs l))) b { x with op := l } := by
 unfold TAt tokC at h ⊢
 simp [World.setCell, Array.getElem?_modify, h]
theorem TAt.put3 {w : World} {b : Nat} {x : Tok} (h : TAt w b x) (l : List UInt8) : TAt (w.setCell ⟨b, 3, none⟩ (.string (bs l))) b { x with val := l } := by
 unfold TAt tokC at h ⊢
 simp [World.setCell, Array.getElem?_modify, h]
theorem TAt.frz {w : World} {b o : Nat} {x : Tok} (h : TAt w b x) : w.frozen? ⟨b, o, none⟩ = false := by simp [World.frozen?, show w.heap[b]? = _ from h]
theorem TAt.other {w : World} {b : Nat} {x : Tok} (h : TAt w b x) {p : Addr} (hp : b ≠ p.block) (v : Value) : TAt (w.setCell p v) b x := (Below.heap_setCell _ _ _ _ hp).trans h
theorem TAt.all {w : World} {b : Nat} {x : Tok} (h : TAt w b x) (y : Tok) : TAt ((((w.setCell ⟨b, 0, none⟩ (.string (bs y.key))).setCell ⟨b, 1, none⟩ (.string (bs y.name))).setCell ⟨b, 2, none⟩ (.string (bs y.op))).setCell ⟨b, 3, none⟩ (.string (bs y.val))) b y :=
 (((h.put0 y.key).put1 y.name).put2 y.op).put3 y.val
theorem beg_end {a : Act} {W : World} {R : Nat} {t : Tok} {b e : Value} {Q : Ending → World → Prop} (h : TAt W R t) (h2 : a.tmps.getD 2 undef = .pointer (some ⟨R, 0, none⟩)) (h3 : a.tmps.getD 3 undef = b) (h4 : a.tmps.getD 4 undef = e) (hd : a.defers = [])
  (hq : Q (.returned (.tuple #[.agg (tokC t), b, e])) W) : bodyPost Tryz.prog Tryz.f73 Q .ret a W := by
 obtain ⟨z0, z1, z2, z3⟩ := h.cells
 refine bodyPost_ret (v := .tuple #[.agg (tokC t), b, e]) ?_ hd hq
 rw [Array.getD_eq_getD_getElem?] at h2 h3 h4
 simp [results, Tryz.results73, go_sem, h2, h3, h4, z0, z1, z2, z3]
 rfl
def begM (kk : List UInt8) : List UInt8 → Rd Tok
 | 123 :: s1 => (match (spanL nmCh s1).2 with
  | [] => .cut
  | c :: s2 => if (spanL nmCh s1).1 = [] ∨ c ≠ 125 then .bad else begO kk (spanL nmCh s1).1 s2)
 | s1 => begO kk [] s1
theorem begL_at {s kk r1 : List UInt8} (h : spanL upCh s = (kk, r1)) : begL s = if kk = [] then .bad else begM kk r1 := by
 unfold begL begM
 rw [h]
 rfl
def opM (k n oo : List UInt8) : List UInt8 → Rd Tok
 | 34 :: r => .ok ⟨k, n, oo, []⟩ r
 | _ => .bad
theorem begO_at {k n x oo r3 : List UInt8} (h : spanL opCh x = (oo, r3)) : begO k n x = if opsL.contains oo then opM k n oo r3 else .bad := by
 unfold begO opB opM
 rw [h]
 split
 ·cases r3 with
  | nil => rfl
  | cons c r =>
   simp only
   by_cases hc : c = 34
   ·subst hc
    rfl
   ·split
    ·rename_i h2
     cases h2
     exact absurd rfl hc
    ·split
     ·rename_i h2
      cases h2
      exact absurd rfl hc
     ·rfl
 ·rfl
theorem begO_bad {k n x oo r3 : List UInt8} (h : spanL opCh x = (oo, r3)) (ho : opsL.contains oo = false) : begO k n x = .bad := by
 rw [begO_at h, if_neg (by rw [ho]; exact Bool.false_ne_true)]
theorem begO_no {k n x oo r3 : List UInt8} (h : spanL opCh x = (oo, r3)) (hr : ∀ r, r3 ≠ 34 :: r) : begO k n x = .bad := by
 rw [begO_at h]
 split
 ·unfold opM
  split
  ·rename_i r
   exact absurd rfl (hr r)
  ·rfl
 ·rfl
theorem begO_ok {k n x oo r : List UInt8} (h : spanL opCh x = (oo, 34 :: r)) (ho : opsL.contains oo = true) : begO k n x = .ok ⟨k, n, oo, []⟩ r := by
 rw [begO_at h, if_pos ho]
 rfl
theorem begM_plain {kk r1 : List UInt8} (hr : ∀ r, r1 ≠ 123 :: r) : begM kk r1 = begO kk [] r1 := by
 unfold begM
 split
 ·rename_i s1
  exact absurd rfl (hr s1)
 ·rfl
def nmM (kk nn : List UInt8) : List UInt8 → Rd Tok
 | [] => .cut
 | c :: s2 => if nn = [] ∨ c ≠ 125 then .bad else begO kk nn s2
theorem begM_brace {kk s1 nn r2 : List UInt8} (h : spanL nmCh s1 = (nn, r2)) : begM kk (123 :: s1) = nmM kk nn r2 := by
 unfold begM nmM
 simp only [h]
theorem begin_any (s : List UInt8) (w : World) : Calls Tryz.prog 73 #[.string (bs s)] w fun r w' => r = .returned (begV (begL s)) ∧ Kp [] w w' := by
 obtain ⟨R, hR⟩ : ∃ R, w.heap.size = R := ⟨_, rfl⟩
 obtain ⟨T, hT⟩ : ∃ T, R + 1 = T := ⟨_, rfl⟩
 obtain ⟨W0, hW⟩ : ∃ W0, (w.alloc (.cells #[.string ⟨#[]⟩, .string ⟨#[]⟩, .string ⟨#[]⟩, .string ⟨#[]⟩] 81)).alloc (.cells #[.string ⟨#[]⟩, .string ⟨#[]⟩, .string ⟨#[]⟩, .string ⟨#[]⟩] 81) = W0 := ⟨_, rfl⟩
 have hK : Kp [] w W0 := by rw [← hW]; exact ((Kp.refl [] w).alloc _).alloc _
 have hTA : TAt W0 T tok0 := by
  have h := heap_alloc_last (w.alloc (.cells #[.string ⟨#[]⟩, .string ⟨#[]⟩, .string ⟨#[]⟩, .string ⟨#[]⟩] 81)) (.cells #[.string ⟨#[]⟩, .string ⟨#[]⟩, .string ⟨#[]⟩, .string ⟨#[]⟩] 81)
  rw [hW, show (w.alloc (.cells #[.string ⟨#[]⟩, .string ⟨#[]⟩, .string ⟨#[]⟩, .string ⟨#[]⟩] 81)).heap.size = T by simp; omega] at h
  exact h
 have hRA : TAt W0 R tok0 := by
  have h := heap_alloc_last w (.cells #[.string ⟨#[]⟩, .string ⟨#[]⟩, .string ⟨#[]⟩, .string ⟨#[]⟩] 81)
  rw [← hW, ← hR]
  exact (((Kp.refl [] _).alloc _).block _ (by simp) (by simp)).trans h
 have hRT : R ≠ T := by omega
 have hTR : T ≠ R := by omega
 have hRw : w.heap.size ≤ R := by omega
 have hTw : w.heap.size ≤ T := by omega
 obtain ⟨c0, c1, c2, c3⟩ := hTA.cells
 have he0 : (bs []).toList.isEmpty = true := bs_isEmpty []
 have cf := fun o => hTA.frz (o := o)
 have rf := fun o => hRA.frz (o := o)
 have HK := qH hK
 have HT := qH hTA
 have HR := qH hRA
 have H2 := qH fun W => take2 s W
 clear hK hTA hRA
 obtain ⟨kk, r1, hsp⟩ : ∃ kk r1, spanL upCh s = (kk, r1) := ⟨_, _, rfl⟩
 have hbe := begL_at hsp
 rw [hsp] at H2
 simp only at H2
 have HSP := qH hsp
 clear hsp
 cases kk with
 | nil =>
  rw [if_pos rfl] at hbe
  rw [hbe]
  clear hbe
  go_enter Tryz.func73, Tryz.ntmps73
  go_wp2_with (first
   | (go_at_call 104; refine cM (by with_reducible exact H2.out _) ?_; rintro r w1 ⟨rfl, hk⟩; have HK1 := qH ((HK.out).trans hk); have HT1 := qH ((HT.out).kp hk (by simp)); have HR1 := qH ((HR.out).kp hk (by simp)); clear hk; obtain ⟨d10, d11, d12, d13⟩ := HT1.out.cells; obtain ⟨e10, e11, e12, e13⟩ := HR1.out.cells; have df1 := fun o => HT1.out.frz (o := o); have ef1 := fun o => HR1.out.frz (o := o)))
  refine beg_end (TAt.all (HR1.out.other (p := ⟨T, 0, none⟩) hRT (.string (bs []))) tok0) rfl rfl rfl rfl ⟨rfl, ?_⟩
  exact (((((HK1.out.setCell (.inr hTw) _).setCell (.inr hRw) _).setCell (.inr hRw) _).setCell (.inr hRw) _).setCell (.inr hRw) _)
 | cons k0 k1 =>
  have hkk : k0 :: k1 ≠ [] := by simp
  have hke : (bs (k0 :: k1)).toList.isEmpty = false := bs_isEmpty _
  rw [if_neg hkk] at hbe
  generalize k0 :: k1 = kk at *
  by_cases hbr : ∃ s1, r1 = 123 :: s1
  ·obtain ⟨s1, rfl⟩ := hbr
   have HC := qH fun W => cutp_yes 123 s1 W
   have H4 := qH fun W => take4 s1 W
   obtain ⟨nn, r2, hsn⟩ : ∃ nn r2, spanL nmCh s1 = (nn, r2) := ⟨_, _, rfl⟩
   have hbm := begM_brace (kk := kk) hsn
   rw [hbm] at hbe
   rw [hsn] at H4
   simp only at H4
   clear hsn hbm
   cases r2 with
   | nil =>
    simp only [nmM] at hbe
    rw [hbe]
    clear hbe
    go_enter Tryz.func73, Tryz.ntmps73
    go_wp2_with (first
     | (go_at_call 104; refine cM (by with_reducible exact H2.out _) ?_; rintro r w1 ⟨rfl, hk⟩; have HK1 := qH ((HK.out).trans hk); have HT1 := qH ((HT.out).kp hk (by simp)); have HR1 := qH ((HR.out).kp hk (by simp)); clear hk; obtain ⟨d10, d11, d12, d13⟩ := HT1.out.cells; obtain ⟨e10, e11, e12, e13⟩ := HR1.out.cells; have df1 := fun o => HT1.out.frz (o := o); have ef1 := fun o => HR1.out.frz (o := o))
     | (go_at_call 105; refine cM (by with_reducible exact HC.out _) ?_; rintro r w9 ⟨rfl, rfl⟩)
     | (go_at_call 104; refine cM (by with_reducible exact H4.out _) ?_; rintro r w2 ⟨rfl, hk⟩; have HK2 := qH ((HK1.out.setCell (p := ⟨T, 0, none⟩) (.inr hTw) (.string (bs kk))).trans hk); have HT2 := qH ((HT1.out.put0 kk).kp hk (by simp)); have HR2 := qH ((HR1.out.other (p := ⟨T, 0, none⟩) hRT (.string (bs kk))).kp hk (by simp)); clear hk; obtain ⟨d20, d21, d22, d23⟩ := HT2.out.cells; obtain ⟨e20, e21, e22, e23⟩ := HR2.out.cells; have df2 := fun o => HT2.out.frz (o := o); have ef2 := fun o => HR2.out.frz (o := o)))
    refine beg_end (TAt.all (HR2.out.other (p := ⟨T, 1, none⟩) hRT (.string (bs nn))) tok0) rfl rfl rfl rfl ⟨rfl, ?_⟩
    exact (((((HK2.out.setCell (.inr hTw) _).setCell (.inr hRw) _).setCell (.inr hRw) _).setCell (.inr hRw) _).setCell (.inr hRw) _)
   | cons c s2 =>
    simp only [nmM] at hbe
    have h2e : (bs (c :: s2)).toList.isEmpty = false := bs_isEmpty _
    have hz : (0 : Int) < ((bs (c :: s2)).size : Int) := by rw [bs_size]; simp
    have hz1 : (1 : Int) ≤ ((bs (c :: s2)).size : Int) := by rw [bs_size]; simp; omega
    cases nn with
    | nil =>
     rw [if_pos (.inl rfl)] at hbe
     rw [hbe]
     clear hbe
     go_enter Tryz.func73, Tryz.ntmps73
     go_wp2_with (first
      | (go_at_call 104; refine cM (by with_reducible exact H2.out _) ?_; rintro r w1 ⟨rfl, hk⟩; have HK1 := qH ((HK.out).trans hk); have HT1 := qH ((HT.out).kp hk (by simp)); have HR1 := qH ((HR.out).kp hk (by simp)); clear hk; obtain ⟨d10, d11, d12, d13⟩ := HT1.out.cells; obtain ⟨e10, e11, e12, e13⟩ := HR1.out.cells; have df1 := fun o => HT1.out.frz (o := o); have ef1 := fun o => HR1.out.frz (o := o))
      | (go_at_call 105; refine cM (by with_reducible exact HC.out _) ?_; rintro r w9 ⟨rfl, rfl⟩)
      | (go_at_call 104; refine cM (by with_reducible exact H4.out _) ?_; rintro r w2 ⟨rfl, hk⟩; have HK2 := qH ((HK1.out.setCell (p := ⟨T, 0, none⟩) (.inr hTw) (.string (bs kk))).trans hk); have HT2 := qH ((HT1.out.put0 kk).kp hk (by simp)); have HR2 := qH ((HR1.out.other (p := ⟨T, 0, none⟩) hRT (.string (bs kk))).kp hk (by simp)); clear hk; obtain ⟨d20, d21, d22, d23⟩ := HT2.out.cells; obtain ⟨e20, e21, e22, e23⟩ := HR2.out.cells; have df2 := fun o => HT2.out.frz (o := o); have ef2 := fun o => HR2.out.frz (o := o)))
     refine beg_end (TAt.all (HR2.out.other (p := ⟨T, 1, none⟩) hRT (.string (bs []))) tok0) rfl rfl rfl rfl ⟨rfl, ?_⟩
     exact (((((HK2.out.setCell (.inr hTw) _).setCell (.inr hRw) _).setCell (.inr hRw) _).setCell (.inr hRw) _).setCell (.inr hRw) _)
    | cons n0 n1 =>
     have hnn : n0 :: n1 ≠ [] := by simp
     have hne : (bs (n0 :: n1)).toList.isEmpty = false := bs_isEmpty _
     generalize n0 :: n1 = nn at *
     have hh : (bs (c :: s2))[0]'(by rw [bs_size]; simp) = c := rfl
     by_cases hc : c = 125
     ·have hcn : ((c.toNat : Int) != 125) = false := by rw [hc]; rfl
      rw [if_neg (by simp [hnn, hc])] at hbe
      have H8 := qH fun W => take8 s2 W
      have hex : bs s2 = (bs (c :: s2)).extract 1 (bs (c :: s2)).size := by rw [bs_drop]; rfl
      rw [hex] at H8
      clear hex hc
      obtain ⟨oo, r3, hso⟩ : ∃ oo r3, spanL opCh s2 = (oo, r3) := ⟨_, _, rfl⟩
      rw [hso] at H8
      simp only at H8
      have HO := qH fun W => isOp_any oo W
      by_cases hq : ∃ r, r3 = 34 :: r
      ·obtain ⟨r, rfl⟩ := hq
       have HQ := qH fun W => cutp_yes 34 r W
       cases hoo : opsL.contains oo with
       | false =>
        rw [hoo] at HO
        rw [begO_bad hso hoo] at hbe
        rw [hbe]
        clear hbe hso hoo
        go_enter Tryz.func73, Tryz.ntmps73
        go_wp2_with (first
         | (go_at_call 104; refine cM (by with_reducible exact H2.out _) ?_; rintro r w1 ⟨rfl, hk⟩; have HK1 := qH ((HK.out).trans hk); have HT1 := qH ((HT.out).kp hk (by simp)); have HR1 := qH ((HR.out).kp hk (by simp)); clear hk; obtain ⟨d10, d11, d12, d13⟩ := HT1.out.cells; obtain ⟨e10, e11, e12, e13⟩ := HR1.out.cells; have df1 := fun o => HT1.out.frz (o := o); have ef1 := fun o => HR1.out.frz (o := o))
         | (go_at_call 105; refine cM (by with_reducible exact HC.out _) ?_; rintro r w9 ⟨rfl, rfl⟩)
         | (go_at_call 104; refine cM (by with_reducible exact H4.out _) ?_; rintro r w2 ⟨rfl, hk⟩; have HK2 := qH ((HK1.out.setCell (p := ⟨T, 0, none⟩) (.inr hTw) (.string (bs kk))).trans hk); have HT2 := qH ((HT1.out.put0 kk).kp hk (by simp)); have HR2 := qH ((HR1.out.other (p := ⟨T, 0, none⟩) hRT (.string (bs kk))).kp hk (by simp)); clear hk; obtain ⟨d20, d21, d22, d23⟩ := HT2.out.cells; obtain ⟨e20, e21, e22, e23⟩ := HR2.out.cells; have df2 := fun o => HT2.out.frz (o := o); have ef2 := fun o => HR2.out.frz (o := o))
         | (go_at_call 104; refine cM (by with_reducible exact H8.out _) ?_; rintro r w3 ⟨rfl, hk⟩; have HK3 := qH ((HK2.out.setCell (p := ⟨T, 1, none⟩) (.inr hTw) (.string (bs nn))).trans hk); have HT3 := qH ((HT2.out.put1 nn).kp hk (by simp)); have HR3 := qH ((HR2.out.other (p := ⟨T, 1, none⟩) hRT (.string (bs nn))).kp hk (by simp)); clear hk; obtain ⟨d30, d31, d32, d33⟩ := HT3.out.cells; obtain ⟨e30, e31, e32, e33⟩ := HR3.out.cells; have df3 := fun o => HT3.out.frz (o := o); have ef3 := fun o => HR3.out.frz (o := o))
         | (go_at_call 105; refine cM (by with_reducible exact HQ.out _) ?_; rintro r w9 ⟨rfl, rfl⟩)
         | (go_at_call 106; refine cM (by with_reducible exact HO.out _) ?_; rintro r w9 ⟨rfl, rfl⟩))
        refine beg_end (TAt.all (HR3.out.other (p := ⟨T, 2, none⟩) hRT (.string (bs oo))) tok0) rfl rfl rfl rfl ⟨rfl, ?_⟩
        exact (((((HK3.out.setCell (.inr hTw) _).setCell (.inr hRw) _).setCell (.inr hRw) _).setCell (.inr hRw) _).setCell (.inr hRw) _)
       | true =>
        rw [hoo] at HO
        rw [begO_ok hso hoo] at hbe
        rw [hbe]
        clear hbe hso hoo
        go_enter Tryz.func73, Tryz.ntmps73
        go_wp2_with (first
         | (go_at_call 104; refine cM (by with_reducible exact H2.out _) ?_; rintro r w1 ⟨rfl, hk⟩; have HK1 := qH ((HK.out).trans hk); have HT1 := qH ((HT.out).kp hk (by simp)); have HR1 := qH ((HR.out).kp hk (by simp)); clear hk; obtain ⟨d10, d11, d12, d13⟩ := HT1.out.cells; obtain ⟨e10, e11, e12, e13⟩ := HR1.out.cells; have df1 := fun o => HT1.out.frz (o := o); have ef1 := fun o => HR1.out.frz (o := o))
         | (go_at_call 105; refine cM (by with_reducible exact HC.out _) ?_; rintro r w9 ⟨rfl, rfl⟩)
         | (go_at_call 104; refine cM (by with_reducible exact H4.out _) ?_; rintro r w2 ⟨rfl, hk⟩; have HK2 := qH ((HK1.out.setCell (p := ⟨T, 0, none⟩) (.inr hTw) (.string (bs kk))).trans hk); have HT2 := qH ((HT1.out.put0 kk).kp hk (by simp)); have HR2 := qH ((HR1.out.other (p := ⟨T, 0, none⟩) hRT (.string (bs kk))).kp hk (by simp)); clear hk; obtain ⟨d20, d21, d22, d23⟩ := HT2.out.cells; obtain ⟨e20, e21, e22, e23⟩ := HR2.out.cells; have df2 := fun o => HT2.out.frz (o := o); have ef2 := fun o => HR2.out.frz (o := o))
         | (go_at_call 104; refine cM (by with_reducible exact H8.out _) ?_; rintro r w3 ⟨rfl, hk⟩; have HK3 := qH ((HK2.out.setCell (p := ⟨T, 1, none⟩) (.inr hTw) (.string (bs nn))).trans hk); have HT3 := qH ((HT2.out.put1 nn).kp hk (by simp)); have HR3 := qH ((HR2.out.other (p := ⟨T, 1, none⟩) hRT (.string (bs nn))).kp hk (by simp)); clear hk; obtain ⟨d30, d31, d32, d33⟩ := HT3.out.cells; obtain ⟨e30, e31, e32, e33⟩ := HR3.out.cells; have df3 := fun o => HT3.out.frz (o := o); have ef3 := fun o => HR3.out.frz (o := o))
         | (go_at_call 105; refine cM (by with_reducible exact HQ.out _) ?_; rintro r w9 ⟨rfl, rfl⟩)
         | (go_at_call 106; refine cM (by with_reducible exact HO.out _) ?_; rintro r w9 ⟨rfl, rfl⟩))
        refine beg_end (TAt.all (HR3.out.other (p := ⟨T, 2, none⟩) hRT (.string (bs oo))) ⟨kk, nn, oo, []⟩) rfl rfl rfl rfl ⟨rfl, ?_⟩
        exact (((((HK3.out.setCell (.inr hTw) _).setCell (.inr hRw) _).setCell (.inr hRw) _).setCell (.inr hRw) _).setCell (.inr hRw) _)
      ·have hq2 : ∀ r, r3 ≠ 34 :: r := fun r h => hq ⟨r, h⟩
       have HQ := qH fun W => cutp_no 34 r3 W hq2
       rw [begO_no hso hq2] at hbe
       rw [hbe]
       clear hbe hso hq hq2
       cases hoo : opsL.contains oo with
       | false =>
        rw [hoo] at HO
        clear hoo
        go_enter Tryz.func73, Tryz.ntmps73
        go_wp2_with (first
         | (go_at_call 104; refine cM (by with_reducible exact H2.out _) ?_; rintro r w1 ⟨rfl, hk⟩; have HK1 := qH ((HK.out).trans hk); have HT1 := qH ((HT.out).kp hk (by simp)); have HR1 := qH ((HR.out).kp hk (by simp)); clear hk; obtain ⟨d10, d11, d12, d13⟩ := HT1.out.cells; obtain ⟨e10, e11, e12, e13⟩ := HR1.out.cells; have df1 := fun o => HT1.out.frz (o := o); have ef1 := fun o => HR1.out.frz (o := o))
         | (go_at_call 105; refine cM (by with_reducible exact HC.out _) ?_; rintro r w9 ⟨rfl, rfl⟩)
         | (go_at_call 104; refine cM (by with_reducible exact H4.out _) ?_; rintro r w2 ⟨rfl, hk⟩; have HK2 := qH ((HK1.out.setCell (p := ⟨T, 0, none⟩) (.inr hTw) (.string (bs kk))).trans hk); have HT2 := qH ((HT1.out.put0 kk).kp hk (by simp)); have HR2 := qH ((HR1.out.other (p := ⟨T, 0, none⟩) hRT (.string (bs kk))).kp hk (by simp)); clear hk; obtain ⟨d20, d21, d22, d23⟩ := HT2.out.cells; obtain ⟨e20, e21, e22, e23⟩ := HR2.out.cells; have df2 := fun o => HT2.out.frz (o := o); have ef2 := fun o => HR2.out.frz (o := o))
         | (go_at_call 104; refine cM (by with_reducible exact H8.out _) ?_; rintro r w3 ⟨rfl, hk⟩; have HK3 := qH ((HK2.out.setCell (p := ⟨T, 1, none⟩) (.inr hTw) (.string (bs nn))).trans hk); have HT3 := qH ((HT2.out.put1 nn).kp hk (by simp)); have HR3 := qH ((HR2.out.other (p := ⟨T, 1, none⟩) hRT (.string (bs nn))).kp hk (by simp)); clear hk; obtain ⟨d30, d31, d32, d33⟩ := HT3.out.cells; obtain ⟨e30, e31, e32, e33⟩ := HR3.out.cells; have df3 := fun o => HT3.out.frz (o := o); have ef3 := fun o => HR3.out.frz (o := o))
         | (go_at_call 105; refine cM (by with_reducible exact HQ.out _) ?_; rintro r w9 ⟨rfl, rfl⟩)
         | (go_at_call 106; refine cM (by with_reducible exact HO.out _) ?_; rintro r w9 ⟨rfl, rfl⟩))
        refine beg_end (TAt.all (HR3.out.other (p := ⟨T, 2, none⟩) hRT (.string (bs oo))) tok0) rfl rfl rfl rfl ⟨rfl, ?_⟩
        exact (((((HK3.out.setCell (.inr hTw) _).setCell (.inr hRw) _).setCell (.inr hRw) _).setCell (.inr hRw) _).setCell (.inr hRw) _)
       | true =>
        rw [hoo] at HO
        clear hoo
        go_enter Tryz.func73, Tryz.ntmps73
        go_wp2_with (first
         | (go_at_call 104; refine cM (by with_reducible exact H2.out _) ?_; rintro r w1 ⟨rfl, hk⟩; have HK1 := qH ((HK.out).trans hk); have HT1 := qH ((HT.out).kp hk (by simp)); have HR1 := qH ((HR.out).kp hk (by simp)); clear hk; obtain ⟨d10, d11, d12, d13⟩ := HT1.out.cells; obtain ⟨e10, e11, e12, e13⟩ := HR1.out.cells; have df1 := fun o => HT1.out.frz (o := o); have ef1 := fun o => HR1.out.frz (o := o))
         | (go_at_call 105; refine cM (by with_reducible exact HC.out _) ?_; rintro r w9 ⟨rfl, rfl⟩)
         | (go_at_call 104; refine cM (by with_reducible exact H4.out _) ?_; rintro r w2 ⟨rfl, hk⟩; have HK2 := qH ((HK1.out.setCell (p := ⟨T, 0, none⟩) (.inr hTw) (.string (bs kk))).trans hk); have HT2 := qH ((HT1.out.put0 kk).kp hk (by simp)); have HR2 := qH ((HR1.out.other (p := ⟨T, 0, none⟩) hRT (.string (bs kk))).kp hk (by simp)); clear hk; obtain ⟨d20, d21, d22, d23⟩ := HT2.out.cells; obtain ⟨e20, e21, e22, e23⟩ := HR2.out.cells; have df2 := fun o => HT2.out.frz (o := o); have ef2 := fun o => HR2.out.frz (o := o))
         | (go_at_call 104; refine cM (by with_reducible exact H8.out _) ?_; rintro r w3 ⟨rfl, hk⟩; have HK3 := qH ((HK2.out.setCell (p := ⟨T, 1, none⟩) (.inr hTw) (.string (bs nn))).trans hk); have HT3 := qH ((HT2.out.put1 nn).kp hk (by simp)); have HR3 := qH ((HR2.out.other (p := ⟨T, 1, none⟩) hRT (.string (bs nn))).kp hk (by simp)); clear hk; obtain ⟨d30, d31, d32, d33⟩ := HT3.out.cells; obtain ⟨e30, e31, e32, e33⟩ := HR3.out.cells; have df3 := fun o => HT3.out.frz (o := o); have ef3 := fun o => HR3.out.frz (o := o))
         | (go_at_call 105; refine cM (by with_reducible exact HQ.out _) ?_; rintro r w9 ⟨rfl, rfl⟩)
         | (go_at_call 106; refine cM (by with_reducible exact HO.out _) ?_; rintro r w9 ⟨rfl, rfl⟩))
        refine beg_end (TAt.all (HR3.out.other (p := ⟨T, 2, none⟩) hRT (.string (bs oo))) tok0) rfl rfl rfl rfl ⟨rfl, ?_⟩
        exact (((((HK3.out.setCell (.inr hTw) _).setCell (.inr hRw) _).setCell (.inr hRw) _).setCell (.inr hRw) _).setCell (.inr hRw) _)
     ·have hcn : ((c.toNat : Int) != 125) = true := by
       simp only [bne_iff_ne, ne_eq]
       intro h
       exact hc (UInt8.toNat_inj.1 (by have : (125 : UInt8).toNat = 125 := rfl; omega))
      rw [if_pos (.inr hc)] at hbe
      rw [hbe]
      clear hbe hc
      go_enter Tryz.func73, Tryz.ntmps73
      go_wp2_with (first
       | (go_at_call 104; refine cM (by with_reducible exact H2.out _) ?_; rintro r w1 ⟨rfl, hk⟩; have HK1 := qH ((HK.out).trans hk); have HT1 := qH ((HT.out).kp hk (by simp)); have HR1 := qH ((HR.out).kp hk (by simp)); clear hk; obtain ⟨d10, d11, d12, d13⟩ := HT1.out.cells; obtain ⟨e10, e11, e12, e13⟩ := HR1.out.cells; have df1 := fun o => HT1.out.frz (o := o); have ef1 := fun o => HR1.out.frz (o := o))
       | (go_at_call 105; refine cM (by with_reducible exact HC.out _) ?_; rintro r w9 ⟨rfl, rfl⟩)
       | (go_at_call 104; refine cM (by with_reducible exact H4.out _) ?_; rintro r w2 ⟨rfl, hk⟩; have HK2 := qH ((HK1.out.setCell (p := ⟨T, 0, none⟩) (.inr hTw) (.string (bs kk))).trans hk); have HT2 := qH ((HT1.out.put0 kk).kp hk (by simp)); have HR2 := qH ((HR1.out.other (p := ⟨T, 0, none⟩) hRT (.string (bs kk))).kp hk (by simp)); clear hk; obtain ⟨d20, d21, d22, d23⟩ := HT2.out.cells; obtain ⟨e20, e21, e22, e23⟩ := HR2.out.cells; have df2 := fun o => HT2.out.frz (o := o); have ef2 := fun o => HR2.out.frz (o := o)))
      refine beg_end (TAt.all (HR2.out.other (p := ⟨T, 1, none⟩) hRT (.string (bs nn))) tok0) rfl rfl rfl rfl ⟨rfl, ?_⟩
      exact (((((HK2.out.setCell (.inr hTw) _).setCell (.inr hRw) _).setCell (.inr hRw) _).setCell (.inr hRw) _).setCell (.inr hRw) _)
  ·have hbr2 : ∀ r, r1 ≠ 123 :: r := fun r h => hbr ⟨r, h⟩
   rw [begM_plain hbr2] at hbe
   have HC := qH fun W => cutp_no 123 r1 W hbr2
   have H8 := qH fun W => take8 r1 W
   clear hbr hbr2
   obtain ⟨oo, r3, hso⟩ : ∃ oo r3, spanL opCh r1 = (oo, r3) := ⟨_, _, rfl⟩
   rw [hso] at H8
   simp only at H8
   have HO := qH fun W => isOp_any oo W
   by_cases hq : ∃ r, r3 = 34 :: r
   ·obtain ⟨r, rfl⟩ := hq
    have HQ := qH fun W => cutp_yes 34 r W
    cases hoo : opsL.contains oo with
    | false =>
     rw [hoo] at HO
     rw [begO_bad hso hoo] at hbe
     rw [hbe]
     clear hbe hso hoo
     go_enter Tryz.func73, Tryz.ntmps73
     go_wp2_with (first
      | (go_at_call 104; refine cM (by with_reducible exact H2.out _) ?_; rintro r w1 ⟨rfl, hk⟩; have HK1 := qH ((HK.out).trans hk); have HT1 := qH ((HT.out).kp hk (by simp)); have HR1 := qH ((HR.out).kp hk (by simp)); clear hk; obtain ⟨d10, d11, d12, d13⟩ := HT1.out.cells; obtain ⟨e10, e11, e12, e13⟩ := HR1.out.cells; have df1 := fun o => HT1.out.frz (o := o); have ef1 := fun o => HR1.out.frz (o := o))
      | (go_at_call 105; refine cM (by with_reducible exact HC.out _) ?_; rintro r w9 ⟨rfl, rfl⟩)
      | (go_at_call 104; refine cM (by with_reducible exact H8.out _) ?_; rintro r w3 ⟨rfl, hk⟩; have HK3 := qH ((HK1.out.setCell (p := ⟨T, 0, none⟩) (.inr hTw) (.string (bs kk))).trans hk); have HT3 := qH ((HT1.out.put0 kk).kp hk (by simp)); have HR3 := qH ((HR1.out.other (p := ⟨T, 0, none⟩) hRT (.string (bs kk))).kp hk (by simp)); clear hk; obtain ⟨d30, d31, d32, d33⟩ := HT3.out.cells; obtain ⟨e30, e31, e32, e33⟩ := HR3.out.cells; have df3 := fun o => HT3.out.frz (o := o); have ef3 := fun o => HR3.out.frz (o := o))
      | (go_at_call 105; refine cM (by with_reducible exact HQ.out _) ?_; rintro r w9 ⟨rfl, rfl⟩)
      | (go_at_call 106; refine cM (by with_reducible exact HO.out _) ?_; rintro r w9 ⟨rfl, rfl⟩))
     refine beg_end (TAt.all (HR3.out.other (p := ⟨T, 2, none⟩) hRT (.string (bs oo))) tok0) rfl rfl rfl rfl ⟨rfl, ?_⟩
     exact (((((HK3.out.setCell (.inr hTw) _).setCell (.inr hRw) _).setCell (.inr hRw) _).setCell (.inr hRw) _).setCell (.inr hRw) _)
    | true =>
     rw [hoo] at HO
     rw [begO_ok hso hoo] at hbe
     rw [hbe]
     clear hbe hso hoo
     go_enter Tryz.func73, Tryz.ntmps73
     go_wp2_with (first
      | (go_at_call 104; refine cM (by with_reducible exact H2.out _) ?_; rintro r w1 ⟨rfl, hk⟩; have HK1 := qH ((HK.out).trans hk); have HT1 := qH ((HT.out).kp hk (by simp)); have HR1 := qH ((HR.out).kp hk (by simp)); clear hk; obtain ⟨d10, d11, d12, d13⟩ := HT1.out.cells; obtain ⟨e10, e11, e12, e13⟩ := HR1.out.cells; have df1 := fun o => HT1.out.frz (o := o); have ef1 := fun o => HR1.out.frz (o := o))
      | (go_at_call 105; refine cM (by with_reducible exact HC.out _) ?_; rintro r w9 ⟨rfl, rfl⟩)
      | (go_at_call 104; refine cM (by with_reducible exact H8.out _) ?_; rintro r w3 ⟨rfl, hk⟩; have HK3 := qH ((HK1.out.setCell (p := ⟨T, 0, none⟩) (.inr hTw) (.string (bs kk))).trans hk); have HT3 := qH ((HT1.out.put0 kk).kp hk (by simp)); have HR3 := qH ((HR1.out.other (p := ⟨T, 0, none⟩) hRT (.string (bs kk))).kp hk (by simp)); clear hk; obtain ⟨d30, d31, d32, d33⟩ := HT3.out.cells; obtain ⟨e30, e31, e32, e33⟩ := HR3.out.cells; have df3 := fun o => HT3.out.frz (o := o); have ef3 := fun o => HR3.out.frz (o := o))
      | (go_at_call 105; refine cM (by with_reducible exact HQ.out _) ?_; rintro r w9 ⟨rfl, rfl⟩)
      | (go_at_call 106; refine cM (by with_reducible exact HO.out _) ?_; rintro r w9 ⟨rfl, rfl⟩))
     refine beg_end (TAt.all (HR3.out.other (p := ⟨T, 2, none⟩) hRT (.string (bs oo))) ⟨kk, [], oo, []⟩) rfl rfl rfl rfl ⟨rfl, ?_⟩
     exact (((((HK3.out.setCell (.inr hTw) _).setCell (.inr hRw) _).setCell (.inr hRw) _).setCell (.inr hRw) _).setCell (.inr hRw) _)
   ·have hq2 : ∀ r, r3 ≠ 34 :: r := fun r h => hq ⟨r, h⟩
    have HQ := qH fun W => cutp_no 34 r3 W hq2
    rw [begO_no hso hq2] at hbe
    rw [hbe]
    clear hbe hso hq hq2
    cases hoo : opsL.contains oo with
    | false =>
     rw [hoo] at HO
     clear hoo
     go_enter Tryz.func73, Tryz.ntmps73
     go_wp2_with (first
      | (go_at_call 104; refine cM (by with_reducible exact H2.out _) ?_; rintro r w1 ⟨rfl, hk⟩; have HK1 := qH ((HK.out).trans hk); have HT1 := qH ((HT.out).kp hk (by simp)); have HR1 := qH ((HR.out).kp hk (by simp)); clear hk; obtain ⟨d10, d11, d12, d13⟩ := HT1.out.cells; obtain ⟨e10, e11, e12, e13⟩ := HR1.out.cells; have df1 := fun o => HT1.out.frz (o := o); have ef1 := fun o => HR1.out.frz (o := o))
      | (go_at_call 105; refine cM (by with_reducible exact HC.out _) ?_; rintro r w9 ⟨rfl, rfl⟩)
      | (go_at_call 104; refine cM (by with_reducible exact H8.out _) ?_; rintro r w3 ⟨rfl, hk⟩; have HK3 := qH ((HK1.out.setCell (p := ⟨T, 0, none⟩) (.inr hTw) (.string (bs kk))).trans hk); have HT3 := qH ((HT1.out.put0 kk).kp hk (by simp)); have HR3 := qH ((HR1.out.other (p := ⟨T, 0, none⟩) hRT (.string (bs kk))).kp hk (by simp)); clear hk; obtain ⟨d30, d31, d32, d33⟩ := HT3.out.cells; obtain ⟨e30, e31, e32, e33⟩ := HR3.out.cells; have df3 := fun o => HT3.out.frz (o := o); have ef3 := fun o => HR3.out.frz (o := o))
      | (go_at_call 105; refine cM (by with_reducible exact HQ.out _) ?_; rintro r w9 ⟨rfl, rfl⟩)
      | (go_at_call 106; refine cM (by with_reducible exact HO.out _) ?_; rintro r w9 ⟨rfl, rfl⟩))
     refine beg_end (TAt.all (HR3.out.other (p := ⟨T, 2, none⟩) hRT (.string (bs oo))) tok0) rfl rfl rfl rfl ⟨rfl, ?_⟩
     exact (((((HK3.out.setCell (.inr hTw) _).setCell (.inr hRw) _).setCell (.inr hRw) _).setCell (.inr hRw) _).setCell (.inr hRw) _)
    | true =>
     rw [hoo] at HO
     clear hoo
     go_enter Tryz.func73, Tryz.ntmps73
     go_wp2_with (first
      | (go_at_call 104; refine cM (by with_reducible exact H2.out _) ?_; rintro r w1 ⟨rfl, hk⟩; have HK1 := qH ((HK.out).trans hk); have HT1 := qH ((HT.out).kp hk (by simp)); have HR1 := qH ((HR.out).kp hk (by simp)); clear hk; obtain ⟨d10, d11, d12, d13⟩ := HT1.out.cells; obtain ⟨e10, e11, e12, e13⟩ := HR1.out.cells; have df1 := fun o => HT1.out.frz (o := o); have ef1 := fun o => HR1.out.frz (o := o))
      | (go_at_call 105; refine cM (by with_reducible exact HC.out _) ?_; rintro r w9 ⟨rfl, rfl⟩)
      | (go_at_call 104; refine cM (by with_reducible exact H8.out _) ?_; rintro r w3 ⟨rfl, hk⟩; have HK3 := qH ((HK1.out.setCell (p := ⟨T, 0, none⟩) (.inr hTw) (.string (bs kk))).trans hk); have HT3 := qH ((HT1.out.put0 kk).kp hk (by simp)); have HR3 := qH ((HR1.out.other (p := ⟨T, 0, none⟩) hRT (.string (bs kk))).kp hk (by simp)); clear hk; obtain ⟨d30, d31, d32, d33⟩ := HT3.out.cells; obtain ⟨e30, e31, e32, e33⟩ := HR3.out.cells; have df3 := fun o => HT3.out.frz (o := o); have ef3 := fun o => HR3.out.frz (o := o))
      | (go_at_call 105; refine cM (by with_reducible exact HQ.out _) ?_; rintro r w9 ⟨rfl, rfl⟩)
      | (go_at_call 106; refine cM (by with_reducible exact HO.out _) ?_; rintro r w9 ⟨rfl, rfl⟩))
     refine beg_end (TAt.all (HR3.out.other (p := ⟨T, 2, none⟩) hRT (.string (bs oo))) tok0) rfl rfl rfl rfl ⟨rfl, ?_⟩
     exact (((((HK3.out.setCell (.inr hTw) _).setCell (.inr hRw) _).setCell (.inr hRw) _).setCell (.inr hRw) _).setCell (.inr hRw) _)
end Go.Proofs.YtkkibibecgcbmaaGreatDoor.Lx
namespace Go.Proofs.YtkkibibecgcbmaaGreatDoor.Lx
open Go.RowKit
def tokensE (s : List UInt8) : List Tok × Nat :=
 if 1024 < s.length then ([], 81) else if s.all lnCh = false then ([], 80) else
 match tokensL s with | .bad => ([], 82) | .cut => ([], 83) | .ok l _ => (l, 0)
def preT (xs : List Tok) : Rd (List Tok) → Rd (List Tok)
 | .bad => .bad
 | .cut => .cut
 | .ok l q => .ok (xs ++ l) q
theorem preT_nil (x : Rd (List Tok)) : preT [] x = x := by cases x <;> rfl
theorem preT_app (a b : List Tok) (x : Rd (List Tok)) : preT a (preT b x) = preT (a ++ b) x := by cases x <;> simp [preT]
theorem tokensF_begL (f : Nat) {s : List UInt8} (hs : s ≠ []) : tokensF (f + 1) s = match begL s with
  | .bad => .bad
  | .cut => .cut
  | .ok t body => match scanV false body with
   | .bad => .bad
   | .cut => .cut
   | .ok raw q => if q ≠ [] ∧ trimL q = q then .bad else preT [{ t with val := unescL raw }] (tokensF f (trimL q)) := by
 rw [tokensF, if_neg hs, tokenL_beg]
 cases begL s with
 | bad => rfl
 | cut => rfl
 | ok t body =>
  simp only
  cases scanV false body with
  | bad => rfl
  | cut => rfl
  | ok raw q =>
   simp only [Rd.map]
   split
   ·rfl
   ·cases tokensF f (trimL q) <;> rfl
theorem scanV_step (esc : Bool) (b : UInt8) (r : List UInt8) (h1 : ¬(b = 34 ∧ esc = false)) (h2 : b ≠ 9) : scanV esc (b :: r) = (scanV (b == 92) r).map (b :: ·) := by
 rw [scanV, if_neg h1, if_neg h2]
 cases scanV (b == 92) r <;> rfl
theorem Rd.map_map {α β γ : Type} (f : α → β) (g : β → γ) (x : Rd α) : (x.map f).map g = x.map (fun a => g (f a)) := by cases x <;> rfl
theorem scan_next {body : List UInt8} {pos : Nat} {x : UInt8} {esc : Bool} (hx : body[pos]? = some x) (h : scanV false body = (scanV esc (body.drop pos)).map (body.take pos ++ ·)) (h1 : ¬(x = 34 ∧ esc = false)) (h2 : x ≠ 9) :
  scanV false body = (scanV (x == 92) (body.drop (pos + 1))).map (body.take (pos + 1) ++ ·) := by
 have hlt := (List.getElem?_eq_some_iff.1 hx).1
 have hd : body.drop pos = x :: body.drop (pos + 1) := by
  rw [List.drop_eq_getElem_cons hlt]
  rw [(List.getElem?_eq_some_iff.1 hx).2]
 rw [h, hd, scanV_step esc x _ h1 h2, Rd.map_map]
 congr 1
 funext a
 rw [List.take_add_one, hx]
 simp
theorem scan_quote {body : List UInt8} {pos : Nat} {esc : Bool} (hx : body[pos]? = some 34) (h : scanV false body = (scanV esc (body.drop pos)).map (body.take pos ++ ·)) (h1 : esc = false) :
  scanV false body = .ok (body.take pos) (body.drop (pos + 1)) := by
 have hlt := (List.getElem?_eq_some_iff.1 hx).1
 have hd : body.drop pos = 34 :: body.drop (pos + 1) := by
  rw [List.drop_eq_getElem_cons hlt, (List.getElem?_eq_some_iff.1 hx).2]
 rw [h, hd, h1]
 simp [scanV, Rd.map]
theorem scan_tab {body : List UInt8} {pos : Nat} {esc : Bool} (hx : body[pos]? = some 9) (h : scanV false body = (scanV esc (body.drop pos)).map (body.take pos ++ ·)) : scanV false body = .bad := by
 have hlt := (List.getElem?_eq_some_iff.1 hx).1
 have hd : body.drop pos = 9 :: body.drop (pos + 1) := by
  rw [List.drop_eq_getElem_cons hlt, (List.getElem?_eq_some_iff.1 hx).2]
 rw [h, hd, scanV, if_neg (by simp), if_pos rfl]
 rfl
theorem scan_end {body : List UInt8} {esc : Bool} {pos : Nat} (hp : body.length ≤ pos) (h : scanV false body = (scanV esc (body.drop pos)).map (body.take pos ++ ·)) : scanV false body = .cut := by
 rw [h, List.drop_of_length_le hp, scanV]
 rfl
theorem trim_led (q : List UInt8) : q.drop (ledL 32 q) = trimL q := by
 unfold ledL trimL
 rw [inC_sep]
 induction q with
 | nil => rfl
 | cons b q ih =>
  rw [List.takeWhile_cons, List.dropWhile_cons]
  split <;> simp_all
theorem led_zero {q : List UInt8} : ledL 32 q = 0 ↔ trimL q = q := by
 rw [← trim_led]
 constructor
 ·intro h
  rw [h, List.drop_zero]
 ·intro h
  have := congrArg List.length h
  rw [List.length_drop] at this
  have h2 := takeWhile_le (inC 32) q
  unfold ledL at *
  cases q with
  | nil => rfl
  | cons b q =>
   rw [List.length_cons] at this h2
   omega
theorem begL_body {s body : List UInt8} {t : Tok} (h : begL s = .ok t body) : ∃ p, s = p ++ body ∧ p ≠ [] := by
 obtain ⟨e1, _, _⟩ := spanL_eq upCh s
 have hb : ∀ {k n x : List UInt8} {t' : Tok}, begO k n x = .ok t' body → ∃ p, x = p ++ body := fun {k n x t'} h => by
  obtain ⟨g1, _, _⟩ := spanL_eq opCh x
  have h2 := begO_at (k := k) (n := n) (x := x) (oo := (spanL opCh x).1) (r3 := (spanL opCh x).2) rfl
  rw [h] at h2
  split at h2
  ·unfold opM at h2
   split at h2
   ·rename_i r hr
    cases h2
    exact ⟨(spanL opCh x).1 ++ [34], by rw [List.append_assoc, List.cons_append, List.nil_append, ← hr, g1]⟩
   ·cases h2
  ·cases h2
 have h1 := begL_at (s := s) (kk := (spanL upCh s).1) (r1 := (spanL upCh s).2) rfl
 rw [h] at h1
 split at h1
 ·cases h1
 ·rename_i hk
  have fin : ∀ y, (spanL upCh s).2 = y ++ body → ∃ p, s = p ++ body ∧ p ≠ [] := fun y hy => ⟨(spanL upCh s).1 ++ y, by rw [List.append_assoc, ← hy, e1], fun e => hk (List.append_eq_nil_iff.1 e).1⟩
  unfold begM at h1
  split at h1
  ·rename_i s1 hs1
   obtain ⟨g2, _, _⟩ := spanL_eq nmCh s1
   split at h1
   ·cases h1
   ·rename_i c s2 hs2
    split at h1
    ·cases h1
    ·obtain ⟨p, hp⟩ := hb h1.symm
     refine fin (123 :: ((spanL nmCh s1).1 ++ c :: p)) ?_
     rw [hs1, List.cons_append, List.append_assoc, List.cons_append, ← hp, ← hs2, g2]
  ·obtain ⟨p, hp⟩ := hb h1.symm
   exact fin p hp
theorem lead32 (l : List UInt8) (w : World) : Calls Tryz.prog 72 #[.string (bs l), .int .i64 32] w fun r w' => r = .returned (.int .i64 (ledL 32 l : Int)) ∧ Kp [] w w' := by
 have h := leading_any (bs l) 32 w (by decide)
 rw [bs_data] at h
 exact h
theorem u8_eq (a b : UInt8) : ((a.toNat : Int) == (b.toNat : Int)) = (a == b) := by
 rw [Bool.eq_iff_iff]; simp only [beq_iff_eq, ← UInt8.toNat_inj]; omega
theorem lnCh_lt {x : UInt8} (h : lnCh x = true) : x.toNat < 128 := by
 have := forall_u8 (p := fun x => !lnCh x || decide (x.toNat < 128)) (by decide +kernel) x
 simp [h] at this
 exact this
theorem lnCh_pr {x : UInt8} (h : lnCh x = true) (h9 : x ≠ 9) : prCh x = true := by
 unfold lnCh at h
 simp only [Bool.or_eq_true, beq_iff_eq] at h
 exact h.resolve_right h9
theorem bits16 (x : UInt8) : (bits BinOp.and IntKind.i64 (clsN x.toNat : Int) 16 == 0) = !prCh x := by
 have h := bits_inC (b := x) (c := 16) (by decide)
 rw [inC_val] at h
 exact h
theorem class9 (w : World) : Calls Tryz.prog 75 #[.int .i32 9] w fun r w' => r = .returned (.int .i64 33) ∧ w = w' := classOf_any 9 w
theorem class34 (w : World) : Calls Tryz.prog 75 #[.int .i32 34] w fun r w' => r = .returned (.int .i64 17) ∧ w = w' := classOf_any 34 w
theorem bits9 : (bits BinOp.and IntKind.i64 33 16 == 0) = true := by decide +kernel
theorem bits34 : (bits BinOp.and IntKind.i64 17 16 == 0) = false := by decide +kernel
theorem tok_push {w W W7 : World} {tb Nb : Nat} {x : Tok} {v : Value} {xs : List Tok} (hk : Kp [] w W) (ho : tokT.Own W w.heap.size v xs) (ht : w.heap.size ≤ tb) (hv : ∀ b, v.ownBlock = some b → b ≠ tb) (hN : W.heap.size = Nb)
  (hW : (W.setCell ⟨tb, 3, none⟩ (.string (bs x.val))).alloc (.cells (tokC x) 81) = W7) : Kp [] w W7 ∧ tokT.Own W7 w.heap.size v xs ∧ W7.rangeAt Nb 0 (tokT.cf x) := by
 have hs : (W.setCell ⟨tb, 3, none⟩ (.string (bs x.val))).heap.size = Nb := by rw [← hN]; simp [World.setCell]
 have hk1 : Kp [] (W.setCell ⟨tb, 3, none⟩ (.string (bs x.val))) W7 := by rw [← hW]; exact (Kp.refl [] _).alloc _
 refine ⟨(hk.setCell (.inr ht) _).trans hk1, (ho.set (p := ⟨tb, 3, none⟩) hv _).kp0 hk1, ?_⟩
 have h := heap_alloc_last (W.setCell ⟨tb, 3, none⟩ (.string (bs x.val))) (.cells (tokC x) 81)
 rw [hW, hs] at h
 exact TAt.range h
theorem trimL_le (s : List UInt8) : (trimL s).length ≤ s.length := (List.dropWhile_sublist _).length_le
theorem trimL_all {s : List UInt8} (h : s.all lnCh = true) : (trimL s).all lnCh = true := List.all_eq_true.2 fun b hb => List.all_eq_true.1 h b ((List.dropWhile_sublist _).mem hb)
theorem kp_grown {w W w' : World} {v : Value} (h : Kp [] w W) (g : W.grownBy w' v.ownBlock) (hv : ∀ b, v.ownBlock = some b → w.heap.size ≤ b) : Kp [] w w' := by
 cases hb : v.ownBlock with
 | none =>
  rw [hb] at g
  exact h.trans (Kp.of_grown_none g)
 | some b =>
  rw [hb] at g
  exact h.up (Kp.of_grown g) (by intro x hx; simp at hx; subst hx; exact .inr (hv x hb))
theorem tokens_any (s : List UInt8) (w : World) (hm : Max w) (hl : s.length ≤ 1000000000) : Calls Tryz.prog 46 #[.string (bs s)] w fun r w' => ∃ v, r = .returned (.tuple #[v, .int .i64 ((tokensE s).2 : Int)]) ∧ tokT.Own w' w.heap.size v (tokensE s).1 ∧ Kp [] w w' := by
 by_cases h1 : 1024 < s.length
 ·have hE : tokensE s = ([], 81) := if_pos h1
  have hz : (1024 : Int) < ((bs s).size : Int) := by rw [bs_size]; omega
  rw [hE]
  clear hE h1
  go_enter Tryz.func46, Tryz.ntmps46
  go_wp2
  go_step3
  go_wp2
  try rw [Exit.noGoto_ret]
  go_ret2
  exact ⟨_, rfl, RT.Own.nil _ _ _, Kp.refl _ _⟩
 ·have hz : ¬ (1024 : Int) < ((bs s).size : Int) := by rw [bs_size]; omega
  have H1 := qH fun W => cons1 s W
  cases hall : s.all lnCh with
  | false =>
   have hE : tokensE s = ([], 80) := by unfold tokensE; rw [if_neg h1, if_pos hall]
   rw [hE]
   rw [hall] at H1
   clear hE h1 hall
   go_enter Tryz.func46, Tryz.ntmps46
   go_wp2
   go_step3
   go_wp2_with (go_at_call 71; refine cM (by with_reducible exact H1.out _) ?_; rintro r w1 ⟨rfl, hk⟩)
   try rw [Exit.noGoto_ret]
   go_ret2
   exact ⟨_, rfl, RT.Own.nil _ _ _, hk⟩
  | true =>
   have hE : tokensE s = match tokensL s with | .bad => ([], 82) | .cut => ([], 83) | .ok l _ => (l, 0) := by unfold tokensE; rw [if_neg h1, if_neg (by rw [hall]; simp)]
   rw [hall] at H1
   have HE := qH hE
   have H32 := qH fun W => lead32 s W
   have hle := takeWhile_le (inC 32) s
   have hn : (ledL 32 s : Int) ≤ ((bs s).size : Int) := by rw [bs_size]; unfold ledL; omega
   have hn2 : ledL 32 s ≤ (bs s).size := by rw [bs_size]; exact hle
   have hex : (bs s).extract (ledL 32 s) (bs s).size = bs (trimL s) := by rw [bs_drop, trim_led]
   have HX := qH hex
   have HALL := qH hall
   have HLE := qH (show s.length ≤ 1024 by omega)
   clear hE hle hex hall h1
   generalize ledL 32 s = nn at *
   go_enter Tryz.func46, Tryz.ntmps46
   go_wp2
   go_step3
   go_wp2_with (first
    | (go_at_call 71; refine cM (by with_reducible exact H1.out _) ?_; rintro r w1 ⟨rfl, hk⟩; have HK1 := qH hk; clear hk)
    | (go_at_call 72; refine cM (by with_reducible exact H32.out _) ?_; rintro r w2 ⟨rfl, hk⟩; have HK2 := qH (HK1.out.trans hk); clear hk))
   rw [HX.out]
   go_step3
   go_wp2
   go_loopg [4, 5] s.length (fun g s4 s5 wx => ∃ v xs rest f, v = s4 ∧ s5 = .string (bs rest) ∧ tokT.Own wx w.heap.size v xs ∧ Kp [] w wx ∧ rest.all lnCh = true ∧ rest.length ≤ g ∧ xs.length + rest.length ≤ 1024 ∧ rest.length < f ∧ tokensL s = preT xs (tokensF f rest))
   case atStart =>
    have h1 := trimL_le s
    have h2 := HLE.out
    refine ⟨_, [], trimL s, s.length + 1, rfl, rfl, RT.Own.nil _ _ _, HK2.out, trimL_all HALL.out, h1, by simp; omega, by omega, ?_⟩
    rw [preT_nil]
    rfl
   case round =>
    obtain ⟨v, xs, rest, f, rfl, rfl, hown, hkx, hra, hrg, hxr, hrf, htk⟩ := hrel
    have HO := qH hown
    have HKX := qH hkx
    by_cases hre : rest = []
    ·subst hre
     have he0 : (bs []).toList.isEmpty = true := bs_isEmpty []
     have hE := HE.out
     rw [htk, show tokensF f [] = .ok [] [] by cases f with | zero => simp at hrf | succ f => rfl] at hE
     simp only [preT, List.append_nil] at hE
     have HE2 := qH hE
     clear hE hown hkx hra hrg hxr hrf htk
     go_wp2
     try rw [Exit.noGoto_ret]
     go_ret2
     rw [HE2.out]
     exact ⟨_, rfl, HO.out, HKX.out⟩
    ·have hne : (bs rest).toList.isEmpty = false := by
      rw [bs_isEmpty]
      cases rest with
      | nil => exact absurd rfl hre
      | cons _ _ => rfl
     obtain ⟨f', rfl⟩ : ∃ f', f = f' + 1 := ⟨f - 1, by omega⟩
     have htb := tokensF_begL f' hre
     rw [htb] at htk
     have HB := begin_any rest wr
     cases hb : begL rest with
     | bad =>
      rw [hb] at htk HB
      simp only [preT] at htk
      have HB2 := qH HB
      have hE := HE.out
      rw [htk] at hE
      simp only at hE
      have HE2 := qH hE
      unfold begV tokC at HB2
      clear hE HB htk htb hb hown hkx hra hrg hxr hrf hre
      go_wp2_with (go_at_call 73; refine cM (by with_reducible exact HB2.out) ?_; rintro r w3 ⟨rfl, hk⟩; have HK3 := qH (HKX.out.trans hk); clear hk)
      try rw [Exit.noGoto_ret]
      go_ret2
      rw [HE2.out]
      exact ⟨_, rfl, RT.Own.nil _ _ _, HK3.out.alloc _⟩
     | cut =>
      rw [hb] at htk HB
      simp only [preT] at htk
      have HB2 := qH HB
      have hE := HE.out
      rw [htk] at hE
      simp only at hE
      have HE2 := qH hE
      unfold begV tokC at HB2
      clear hE HB htk htb hb hown hkx hra hrg hxr hrf hre
      go_wp2_with (go_at_call 73; refine cM (by with_reducible exact HB2.out) ?_; rintro r w3 ⟨rfl, hk⟩; have HK3 := qH (HKX.out.trans hk); clear hk)
      try rw [Exit.noGoto_ret]
      go_ret2
      rw [HE2.out]
      exact ⟨_, rfl, RT.Own.nil _ _ _, HK3.out.alloc _⟩
     | ok t body =>
      rw [hb] at htk HB
      simp only at htk
      obtain ⟨pp, hpp, hpn⟩ := begL_body hb
      have hba : body.all lnCh = true := all_suffix hra hpp.symm
      have hbl : body.length < rest.length := by
       rw [hpp, List.length_append]
       have := List.length_pos_iff.2 hpn
       omega
      have HB2 := qH HB
      unfold begV tokC at HB2
      have HTK := qH htk
      have HBA := qH hba
      have HBL := qH (show body.length < rest.length ∧ rest.length ≤ gk ∧ xs.length + rest.length ≤ 1024 ∧ rest.length < f' + 1 from ⟨hbl, hrg, hxr, hrf⟩)
      obtain ⟨g, rfl⟩ : ∃ g, gk = g + 1 := ⟨gk - 1, by omega⟩
      clear HB htk htb hb hown hkx hra hrg hxr hrf hre hba hbl hpp hpn
      go_wp2_with (go_at_call 73; refine cM (by with_reducible exact HB2.out) ?_; rintro r w3 ⟨rfl, hk⟩; have HK3 := qH (HKX.out.trans hk); have HO3 := qH (HO.out.kp0 hk); clear hk; obtain ⟨tb, htb⟩ : ∃ tb, w3.heap.size = tb := ⟨_, rfl⟩; obtain ⟨wb, hwb⟩ : ∃ wb, w3.alloc (.cells #[.string (bs t.key), .string (bs t.name), .string (bs t.op), .string (bs t.val)] 81) = wb := ⟨_, rfl⟩)
      have hTb : TAt wb tb t := by
       rw [← hwb, ← htb]
       exact heap_alloc_last w3 _
      have hkb : Kp [] w3 wb := by rw [← hwb]; exact (Kp.refl [] w3).alloc _
      have htw : w.heap.size ≤ tb := by rw [← htb]; exact HK3.out.size
      have hOb : ∀ b, v.ownBlock = some b → b ≠ tb := fun b hb => by
       have := (HO3.out.ge b hb).2
       omega
      have HTb := qH hTb
      have HKb := qH (HK3.out.trans hkb)
      have HOb := qH (HO3.out.kp0 hkb)
      have HOt := qH hOb
      clear hTb hkb hOb hwb htb
      have hbs : (bs body).size = body.length := bs_size _
      go_loopg [4, 9] body.length (fun g2 s4 s9 wx => ∃ pos esc, pos + g2 = body.length ∧ v = s4 ∧ s9 = .bool esc ∧ wx = wb.iter (bs body) pos ∧ Hid (scanV false body = (scanV esc (body.drop pos)).map (body.take pos ++ ·)))
      case atStart =>
       refine ⟨0, false, by omega, rfl, rfl, rfl, qH ?_⟩
       rw [List.drop_zero]
       cases scanV false body <;> simp [Rd.map]
      case round =>
       obtain ⟨pos, esc, hpg, rfl, rfl, rfl, HS⟩ := hrel
       by_cases hp : pos < body.length
       ·have hp2 : pos < (bs body).size := by rw [hbs]; exact hp
        obtain ⟨x, hx⟩ : ∃ x, body[pos]? = some x := ⟨_, List.getElem?_eq_getElem hp⟩
        have hxb : (bs body)[pos]'hp2 = x := (List.getElem?_eq_some_iff.1 hx).2
        have hxl : lnCh x = true := List.all_eq_true.1 HBA.out x (List.mem_of_getElem? hx)
        have hnx : ∀ ty, (Instr.next (.pointer (some ⟨wb.heap.size, 0, none⟩)) true ty).run Tryz.prog (wb.iter (bs body) pos) = _ := fun ty => run_next_ascii wb (bs body) pos ty hp2 (by rw [hxb]; exact lnCh_lt hxl)
        rw [hxb] at hnx
        have h16 := bits16 x
        have HC := qH fun W => classOf_any x.toNat W
        have HXX := qH hx
        have HXL := qH hxl
        clear hxb hx hxl
        by_cases hq : x = 34 ∧ esc = false
        ·obtain ⟨rfl, rfl⟩ := hq
         rw [show (((34 : UInt8).toNat : Nat) : Int) = 34 from rfl] at hnx
         have hsq := scan_quote HXX.out HS.out rfl
         obtain ⟨q, hq⟩ : ∃ q, body.drop (pos + 1) = q := ⟨_, rfl⟩
         obtain ⟨raw, hraw⟩ : ∃ raw, body.take pos = raw := ⟨_, rfl⟩
         rw [hq, hraw] at hsq
         have htk := HTK.out
         rw [hsq] at htk
         simp only at htk
         have hqa : q.all lnCh = true := by rw [← hq]; exact List.all_eq_true.2 fun b hb => List.all_eq_true.1 HBA.out b (List.mem_of_mem_drop hb)
         have hql : q.length + pos + 1 = body.length := by rw [← hq, List.length_drop]; omega
         have hrl : raw.length ≤ 1024 := by rw [← hraw, List.length_take]; have := HBL.out; omega
         have hx1 : (bs body).extract (pos + 1) (bs body).size = bs q := by rw [bs_drop, hq]
         obtain ⟨k, hk⟩ : ∃ k, ledL 32 q = k := ⟨_, rfl⟩
         have hkl : k ≤ q.length := by rw [← hk]; exact takeWhile_le _ _
         have hx2 : (bs body).extract (pos + 1 + k) (bs body).size = bs (trimL q) := by rw [bs_drop, ← List.drop_drop, hq, ← hk, trim_led]
         have hx3 : (bs body).extract 0 pos = bs raw := by rw [bs_take, hraw]
         have H32b := lead32 q
         rw [← hx1, hk] at H32b
         have hmx := fun W (h : Kp [] w W) => unesc_any raw W (by omega) (hm.kp h (by simp))
         rw [← hx3] at hmx
         have H34b := qH hmx
         have H32b := qH H32b
         have hw1 : IntKind.i64.wrap ((pos : Int) + 1) = ((pos + 1 : Nat) : Int) := by rw [IntKind.wrap_i64]; have := HBL.out; omega
         have hw2 : IntKind.i64.wrap ((pos : Int) + 1 + (k : Int)) = ((pos + 1 + k : Nat) : Int) := by rw [IntKind.wrap_i64]; have := HBL.out; omega
         have hs1 : ((pos + 1 : Nat) : Int) ≤ ((bs body).size : Int) := by rw [hbs]; omega
         have hs2 : ((pos + 1 + k : Nat) : Int) ≤ ((bs body).size : Int) := by rw [hbs]; omega
         have hs3 : (pos : Int) ≤ ((bs body).size : Int) := by rw [hbs]; omega
         have ht1 : pos + 1 ≤ (bs body).size := by rw [hbs]; omega
         have ht2 : pos + 1 + k ≤ (bs body).size := by rw [hbs]; omega
         have ht3 : pos ≤ (bs body).size := by rw [hbs]; omega
         have HX2 := qH hx2
         have HX3 := qH hx3
         have HTQ := qH htk
         have HQ := qH (show q.all lnCh = true ∧ q.length + pos + 1 = body.length ∧ k ≤ q.length ∧ ledL 32 q = k from ⟨hqa, hql, hkl, hk⟩)
         obtain ⟨wi, hwi⟩ : ∃ wi, wb.iter (bs body) (pos + 1) = wi := ⟨_, rfl⟩
         have hki : Kp [] wb wi := by rw [← hwi]; exact (Kp.refl [] wb).alloc _
         have HKi := qH (HKb.out.trans hki)
         have HTi := qH (HTb.out.kp hki (by simp))
         have HOi := qH (HOb.out.kp0 hki)
         clear hsq htk hqa hql hrl hx1 hx2 hx3 hk hkl hmx hki hq hraw
         have HXS := qH (show xs.length ≤ 1000000 by have := HBL.out; omega)
         clear hbs
         by_cases hk0 : k = 0
         ·subst hk0
          by_cases hqe : q = []
          ·have hie : (bs (trimL q)).toList.isEmpty = true := by rw [bs_isEmpty, hqe]; rfl
           have HTQ2 := qH (show tokensL s = preT xs (preT [{ t with val := unescL raw }] (tokensF f' (trimL q))) by rw [HTQ.out, if_neg (fun h => h.1 hqe)])
           have hie2 : ((bs body).extract (pos + 1) (bs body).size).toList.isEmpty = true := by
            have := HX2.out
            rw [Nat.add_zero] at this
            rw [this]
            exact hie
           clear hqe
           go_wp2_with (first
            | (go_at_call 72; refine cM (by with_reducible exact H32b.out _) ?_; rintro r w5 ⟨rfl, hk⟩; have HK5 := qH (HKi.out.trans hk); have HT5 := qH (HTi.out.kp hk (by simp)); have HO5 := qH (HOi.out.kp0 hk); clear hk)
            | (go_at_call 74; refine cM (by with_reducible exact H34b.out _ HK5.out) ?_; rintro r w6 ⟨rfl, hk⟩; have HK6 := qH (HK5.out.trans hk); have HT6 := qH (HT5.out.kp hk (by simp)); have HO6 := qH (HO5.out.kp0 hk); clear hk; obtain ⟨d0, d1, d2, d3⟩ := HT6.out.cells; have df := fun o => HT6.out.frz (o := o); obtain ⟨Nb, hNb⟩ : ∃ Nb, w6.heap.size = Nb := ⟨_, rfl⟩; obtain ⟨w7, hw7⟩ : ∃ w7, (w6.setCell ⟨tb, 3, none⟩ (.string (bs (unescL raw)))).alloc (.cells #[.string (bs t.key), .string (bs t.name), .string (bs t.op), .string (bs (unescL raw))] 81) = w7 := ⟨_, rfl⟩; have H7 := qH (tok_push (x := { t with val := unescL raw }) HK6.out HO6.out htw HOt.out hNb hw7))
            | (at_builtin; refine wpList_append_r (r := tokT) rfl (.tmp 69) (.tmp 71) rfl w.heap.size v xs rfl H7.out.2.1 Nb 1 { t with val := unescL raw } rfl H7.out.2.2 HXS.out H7.out.1.size ?_; intro v8 w8 hown8 hgr8; have HO8 := qH hown8; have HK8 := qH (kp_grown H7.out.1 hgr8 fun b hb => (H7.out.2.1.ge b hb).1); clear hown8 hgr8))
           rw [HX2.out]
           go_roundg g
           case measure => omega
           case rel =>
            have hq1 := HQ.out
            have hb1 := HBL.out
            have hle := trimL_le q
            refine ⟨v8, xs ++ [{ t with val := unescL raw }], trimL q, f', rfl, rfl, HO8.out, HK8.out, trimL_all hq1.1, by omega, by rw [List.length_append, List.length_singleton]; omega, by omega, ?_⟩
            rw [HTQ2.out, preT_app]
          ·have hqt : trimL q = q := led_zero.1 HQ.out.2.2.2
           have hE := HE.out
           rw [HTQ.out, if_pos ⟨hqe, hqt⟩] at hE
           simp only [preT] at hE
           have HE2 := qH hE
           have hie2 : ((bs body).extract (pos + 1) (bs body).size).toList.isEmpty = false := by
            have := HX2.out
            rw [Nat.add_zero] at this
            rw [this, bs_isEmpty, hqt]
            cases q with
            | nil => exact absurd rfl hqe
            | cons _ _ => rfl
           clear hqe hqt hE
           go_wp2_with (first
            | (go_at_call 72; refine cM (by with_reducible exact H32b.out _) ?_; rintro r w5 ⟨rfl, hk⟩; have HK5 := qH (HKi.out.trans hk); have HT5 := qH (HTi.out.kp hk (by simp)); have HO5 := qH (HOi.out.kp0 hk); clear hk)
            | (go_at_call 74; refine cM (by with_reducible exact H34b.out _ HK5.out) ?_; rintro r w6 ⟨rfl, hk⟩; have HK6 := qH (HK5.out.trans hk); have HT6 := qH (HT5.out.kp hk (by simp)); have HO6 := qH (HO5.out.kp0 hk); clear hk; obtain ⟨d0, d1, d2, d3⟩ := HT6.out.cells; have df := fun o => HT6.out.frz (o := o); obtain ⟨Nb, hNb⟩ : ∃ Nb, w6.heap.size = Nb := ⟨_, rfl⟩; obtain ⟨w7, hw7⟩ : ∃ w7, (w6.setCell ⟨tb, 3, none⟩ (.string (bs (unescL raw)))).alloc (.cells #[.string (bs t.key), .string (bs t.name), .string (bs t.op), .string (bs (unescL raw))] 81) = w7 := ⟨_, rfl⟩; have H7 := qH (tok_push (x := { t with val := unescL raw }) HK6.out HO6.out htw HOt.out hNb hw7))
            | (at_builtin; refine wpList_append_r (r := tokT) rfl (.tmp 69) (.tmp 71) rfl w.heap.size v xs rfl H7.out.2.1 Nb 1 { t with val := unescL raw } rfl H7.out.2.2 HXS.out H7.out.1.size ?_; intro v8 w8 hown8 hgr8; have HO8 := qH hown8; have HK8 := qH (kp_grown H7.out.1 hgr8 fun b hb => (H7.out.2.1.ge b hb).1); clear hown8 hgr8))
           try rw [Exit.noGoto_ret]
           go_ret2
           rw [HE2.out]
           exact ⟨_, rfl, RT.Own.nil _ _ _, HK5.out⟩
         ·have hk0' : ((k : Int) == 0) = false := by simp; exact hk0
          have HTQ2 := qH (show tokensL s = preT xs (preT [{ t with val := unescL raw }] (tokensF f' (trimL q))) by rw [HTQ.out, if_neg (fun h => hk0 (by rw [← HQ.out.2.2.2]; exact led_zero.2 h.2))])
          clear hk0
          go_wp2_with (first
           | (go_at_call 72; refine cM (by with_reducible exact H32b.out _) ?_; rintro r w5 ⟨rfl, hk⟩; have HK5 := qH (HKi.out.trans hk); have HT5 := qH (HTi.out.kp hk (by simp)); have HO5 := qH (HOi.out.kp0 hk); clear hk)
           | (go_at_call 74; refine cM (by with_reducible exact H34b.out _ HK5.out) ?_; rintro r w6 ⟨rfl, hk⟩; have HK6 := qH (HK5.out.trans hk); have HT6 := qH (HT5.out.kp hk (by simp)); have HO6 := qH (HO5.out.kp0 hk); clear hk; obtain ⟨d0, d1, d2, d3⟩ := HT6.out.cells; have df := fun o => HT6.out.frz (o := o); obtain ⟨Nb, hNb⟩ : ∃ Nb, w6.heap.size = Nb := ⟨_, rfl⟩; obtain ⟨w7, hw7⟩ : ∃ w7, (w6.setCell ⟨tb, 3, none⟩ (.string (bs (unescL raw)))).alloc (.cells #[.string (bs t.key), .string (bs t.name), .string (bs t.op), .string (bs (unescL raw))] 81) = w7 := ⟨_, rfl⟩; have H7 := qH (tok_push (x := { t with val := unescL raw }) HK6.out HO6.out htw HOt.out hNb hw7))
           | (at_builtin; refine wpList_append_r (r := tokT) rfl (.tmp 69) (.tmp 71) rfl w.heap.size v xs rfl H7.out.2.1 Nb 1 { t with val := unescL raw } rfl H7.out.2.2 HXS.out H7.out.1.size ?_; intro v8 w8 hown8 hgr8; have HO8 := qH hown8; have HK8 := qH (kp_grown H7.out.1 hgr8 fun b hb => (H7.out.2.1.ge b hb).1); clear hown8 hgr8))
          rw [HX2.out]
          go_roundg g
          case measure => omega
          case rel =>
           have hq1 := HQ.out
           have hb1 := HBL.out
           have hle := trimL_le q
           refine ⟨v8, xs ++ [{ t with val := unescL raw }], trimL q, f', rfl, rfl, HO8.out, HK8.out, trimL_all hq1.1, by omega, by rw [List.length_append, List.length_singleton]; omega, by omega, ?_⟩
           rw [HTQ2.out, preT_app]
        ·by_cases h9 : x = 9
         ·subst h9
          have h16 := bits9
          rw [show (((9 : UInt8).toNat : Nat) : Int) = 9 from rfl] at hnx
          have hE := HE.out
          rw [HTK.out, scan_tab HXX.out HS.out] at hE
          simp only [preT] at hE
          have HE2 := qH hE
          clear hq hE
          go_wp2_with (go_at_call 75; refine cM (by with_reducible exact class9 _) ?_; rintro r w4 ⟨rfl, rfl⟩)
          try rw [Exit.noGoto_ret]
          go_ret2
          rw [HE2.out]
          exact ⟨_, rfl, RT.Own.nil _ _ _, HKb.out.alloc _⟩
         ·rw [lnCh_pr HXL.out h9, Bool.not_true] at h16
          obtain ⟨g3, rfl⟩ : ∃ g3, gk = g3 + 1 := ⟨gk - 1, by omega⟩
          have HN := qH (scan_next HXX.out HS.out hq h9)
          have h92 := u8_eq x 92
          rw [show ((92 : UInt8).toNat : Int) = 92 from rfl] at h92
          have H92 := qH h92
          clear h92 h9
          cases esc with
          | true =>
           clear hq
           by_cases hx34 : x = 34
           ·subst hx34
            have h16 := bits34
            rw [show (((34 : UInt8).toNat : Nat) : Int) = 34 from rfl] at hnx
            go_wp2_with (go_at_call 75; refine cM (by with_reducible exact class34 _) ?_; rintro r w4 ⟨rfl, rfl⟩)
            go_roundg g3
            case measure => omega
            case rel => exact ⟨pos + 1, false, by omega, rfl, rfl, rfl, HN⟩
           ·have h34 : ((x.toNat : Int) == 34) = false := by
             have e := u8_eq x 34
             rw [show ((34 : UInt8).toNat : Int) = 34 from rfl] at e
             rw [e]
             simp only [beq_eq_false_iff_ne]
             exact hx34
            clear hx34
            go_wp2_with (go_at_call 75; refine cM (by with_reducible exact HC.out _) ?_; rintro r w4 ⟨rfl, rfl⟩)
            go_roundg g3
            case measure => omega
            case rel => exact ⟨pos + 1, x == 92, by omega, rfl, by rw [H92.out], rfl, HN⟩
          | false =>
           have h34 : ((x.toNat : Int) == 34) = false := by
            have e := u8_eq x 34
            rw [show ((34 : UInt8).toNat : Int) = 34 from rfl] at e
            rw [e]
            simp only [beq_eq_false_iff_ne]
            exact fun h => hq ⟨h, rfl⟩
           clear hq
           go_wp2_with (go_at_call 75; refine cM (by with_reducible exact HC.out _) ?_; rintro r w4 ⟨rfl, rfl⟩)
           go_roundg g3
           case measure => omega
           case rel => exact ⟨pos + 1, x == 92, by omega, rfl, by rw [H92.out], rfl, HN⟩
       ·have hp2 : ¬ pos < (bs body).size := by rw [hbs]; exact hp
        have hnx : ∀ ty, (Instr.next (.pointer (some ⟨wb.heap.size, 0, none⟩)) true ty).run Tryz.prog (wb.iter (bs body) pos) = _ := fun ty => run_next_end wb (bs body) pos ty hp2
        have hE := HE.out
        rw [HTK.out, scan_end (by omega) HS.out] at hE
        simp only [preT] at hE
        have HE2 := qH hE
        clear hE
        go_wp2
        try rw [Exit.noGoto_ret]
        go_ret2
        rw [HE2.out]
        exact ⟨_, rfl, RT.Own.nil _ _ _, HKb.out.alloc _⟩
end Go.Proofs.YtkkibibecgcbmaaGreatDoor.Lx
namespace Go.Proofs.YtkkibibecgcbmaaGreatDoor.Lx
open Go.RowKit
structure Bk (B b : Nat) (w w' : World) : Prop where
 bel : Below B w w'
 oth : Lib.OthersKept 5 (some b) w w'
end Go.Proofs.YtkkibibecgcbmaaGreatDoor.Lx
namespace Go.Proofs.YtkkibibecgcbmaaGreatDoor.Lx
open Go.RowKit
def fmtE (l : List Tok) : List UInt8 × Nat := if l.all goodB = false then ([], 82) else if 1024 < (fmtL l).length then ([], 81) else (fmtL l, 0)
theorem fmtL_snoc : ∀ (l : List Tok) (x : Tok), l ≠ [] → fmtL (l ++ [x]) = fmtL l ++ (44 :: 32 :: fmtT x)
 | [], _, h => absurd rfl h
 | [a], x, _ => rfl
 | a :: b :: l, x, _ => by
  have ih := fmtL_snoc (b :: l) x (by simp)
  show fmtT a ++ 44 :: 32 :: fmtL ((b :: l) ++ [x]) = (fmtT a ++ 44 :: 32 :: fmtL (b :: l)) ++ _
  rw [ih]
  simp
theorem TAt.bk {w w' : World} {B b p : Nat} {x : Tok} (h : TAt w p x) (hk : Bk B b w w') (hp : p ≠ b) : TAt w' p x := by
 refine hk.oth p _ h (fun e => hp (Option.some.inj e)) fun c fz e => ?_
 injection e with _ e2
 exact absurd e2 (by decide)
theorem fmtT_len {x : Tok} (h : Sm x) : (fmtT x).length ≤ 6000000000 := by
 obtain ⟨h1, h2, h3, h4⟩ := h
 have := fmtV_len x.val
 unfold fmtT
 simp only [List.length_append, List.length_cons, List.length_nil]
 split
 ·simp only [List.length_nil]; omega
 ·simp only [List.length_cons, List.length_append, List.length_nil]; omega
end Go.Proofs.YtkkibibecgcbmaaGreatDoor.Lx
namespace Go.Proofs.YtkkibibecgcbmaaGreatDoor.Lx
open Go.RowKit
theorem valL_len : ∀ (n : Nat) (s v q : List UInt8), s.length ≤ n → valL s = .ok v q → v.length + q.length + 1 ≤ s.length
 | _, [], v, q, _, h => by rw [valL.eq_def] at h; cases h
 | n + 1, b :: r, v, q, hn, h => by
  rw [valL.eq_def] at h
  simp only at h
  simp only [List.length_cons] at hn ⊢
  split at h
  ·cases h
   simp
  ·split at h
   ·cases h
   ·split at h
    ·split at h
     ·cases h
     ·cases h
     ·rename_i r' _ _ v' q' hv
      cases h
      simp only [List.length_cons] at hn ⊢
      have := valL_len n _ _ _ (by omega) hv
      omega
    ·split at h
     ·cases h
     ·cases h
     ·rename_i hv
      cases h
      have := valL_len n _ _ _ (by omega) hv
      simp only [List.length_cons]
      omega
theorem opL_len {k n s q : List UInt8} {x : Tok} (h : opL k n s = .ok x q) : x.key = k ∧ x.name = n ∧ x.op.length ≤ 2 ∧ x.val.length ≤ s.length := by
 unfold opL at h
 split at h
 ·cases h
 ·rename_i o ho
  have ho2 : o ∈ opsL := List.mem_of_find?_eq_some ho
  have ho3 : ∀ o ∈ opsL, o.length ≤ 2 := by decide
  split at h
  ·rename_i r hr
   split at h
   ·cases h
   ·cases h
   ·rename_i v q' hv
    cases h
    have h1 := valL_len _ r v _ (Nat.le_refl _) hv
    have hd : (s.drop o.length).length ≤ s.length := by simp
    rw [hr, List.length_cons] at hd
    exact ⟨rfl, rfl, ho3 o ho2, by simp only; omega⟩
  ·cases h
theorem tokenL_len {s q : List UInt8} {x : Tok} (h : tokenL s = .ok x q) : x.key.length ≤ s.length ∧ x.name.length ≤ s.length ∧ x.op.length ≤ 2 ∧ x.val.length ≤ s.length := by
 have e1 := congrArg List.length (spanL_eq upCh s).1
 rw [List.length_append] at e1
 unfold tokenL at h
 split at h
 ·cases h
 ·split at h
  ·obtain ⟨a, b, c, d⟩ := opL_len h
   rw [a, b]
   simp only [List.length_nil] at d ⊢
   exact ⟨by omega, by omega, c, by omega⟩
  ·rename_i c s1 hs1
   rw [hs1, List.length_cons] at e1
   split at h
   ·unfold nameL at h
    have e2 := congrArg List.length (spanL_eq nmCh s1).1
    rw [List.length_append] at e2
    split at h
    ·cases h
    ·rename_i c2 s2 hs2
     rw [hs2, List.length_cons] at e2
     split at h
     ·cases h
     ·split at h
      ·obtain ⟨a, b, c, d⟩ := opL_len h
       rw [a, b]
       exact ⟨by omega, by omega, c, by omega⟩
      ·cases h
   ·obtain ⟨a, b, c, d⟩ := opL_len h
    rw [a, b]
    simp only [List.length_nil, List.length_cons] at d ⊢
    exact ⟨by omega, by omega, c, by omega⟩
theorem tokensF_len (N : Nat) : ∀ (f : Nat) (s : List UInt8) (l : List Tok) (q : List UInt8), s.all lnCh = true → s.length ≤ N → tokensF f s = .ok l q → l.length ≤ s.length ∧ ∀ x ∈ l, x.key.length ≤ N ∧ x.name.length ≤ N ∧ x.op.length ≤ 2 ∧ x.val.length ≤ N
 | 0, _, _, _, _, _, h => by cases h
 | f + 1, s, l, q, hs, hN, h => by
  rw [tokensF] at h
  split at h
  ·cases h
   exact ⟨Nat.zero_le _, fun x hx => by cases hx⟩
  ·split at h
   ·cases h
   ·cases h
   ·rename_i x r hx
    obtain ⟨g, p, hp, hpn⟩ := tokenL_good hs hx
    obtain ⟨y1, y2, y3, y4⟩ := tokenL_len hx
    split at h
    ·cases h
    ·split at h
     ·cases h
     ·cases h
     ·rename_i l' q' hl
      cases h
      have hr : r.all lnCh = true := all_suffix hs hp.symm
      have ht : (trimL r).all lnCh = true := List.all_eq_true.2 fun b hb => List.all_eq_true.1 hr b ((List.dropWhile_sublist _).mem hb)
      have hlr := trimL_le r
      have hls : r.length < s.length := by
       rw [hp, List.length_append]
       have := List.length_pos_iff.2 hpn
       omega
      obtain ⟨i1, i2⟩ := tokensF_len N f (trimL r) l' _ ht (by omega) hl
      refine ⟨by rw [List.length_cons]; omega, fun z hz => ?_⟩
      rcases List.mem_cons.1 hz with rfl | hz
      ·exact ⟨by omega, by omega, y3, by omega⟩
      ·exact i2 z hz
theorem read_ok {t : List UInt8} {l : List Tok} (h : tokensE t = (l, 0)) : l.length ≤ 1024 ∧ (∀ x ∈ l, Good x) ∧ ∀ x ∈ l, Sm x := by
 unfold tokensE at h
 split at h
 ·cases h
 ·split at h
  ·cases h
  ·rename_i h1 h2
   split at h
   ·cases h
   ·cases h
   ·rename_i l' q hl
    cases h
    have hln : t.all lnCh = true := by simpa using h2
    have ht : (trimL t).all lnCh = true := List.all_eq_true.2 fun b hb => List.all_eq_true.1 hln b ((List.dropWhile_sublist _).mem hb)
    have hlt := trimL_le t
    obtain ⟨i1, i2⟩ := tokensF_len 1024 _ _ _ _ ht (by omega) hl
    exact ⟨by omega, tokensF_good _ _ _ _ ht hl, fun x hx => by obtain ⟨a, b, c, d⟩ := i2 x hx; exact ⟨by omega, by omega, by omega, by omega⟩⟩
end Go.Proofs.YtkkibibecgcbmaaGreatDoor.Lx
