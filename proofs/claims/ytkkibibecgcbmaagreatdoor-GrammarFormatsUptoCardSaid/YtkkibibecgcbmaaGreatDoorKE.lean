/- beginning: a token up to its quote. Tokens. strings.Builder: copyCheck, WriteString (at this translation, whose copyCheck ends otherwise than the shelf's at a copied builder), and the builder that a call makes. Format. What tokens are like; lines read back. -/
import Derived.Test.YtkkibibecgcbmaaGreatDoorKD
import Derived.WalkMore
import Derived.Deep.LoopGhost
import Derived.Lib.OthersKept
import Derived.Shelf.Strings.BuilderK
namespace Go.Proofs.YtkkibibecgcbmaaGreatDoor.Lx
open Go.RowKit
def tok0 : Tok := ⟨[], [], [], []⟩
def begV : Rd Tok → Value
 | .bad => .tuple #[.agg (tokC tok0), .string (bs []), .int .i64 82]
 | .cut => .tuple #[.agg (tokC tok0), .string (bs []), .int .i64 83]
 | .ok t r => .tuple #[.agg (tokC t), .string (bs r), .int .i64 0]
theorem take2 (l : List UInt8) (w : World) : Calls Tryz.prog 104 #[.string (bs l), .int .i64 2] w fun r w' => r = .returned (.tuple #[.string (bs (spanL upCh l).1), .string (bs (spanL upCh l).2)]) ∧ Kp [] w w' := by
 have h := take_any l 2 w (by decide)
 rw [inC_key] at h
 exact h
theorem take4 (l : List UInt8) (w : World) : Calls Tryz.prog 104 #[.string (bs l), .int .i64 4] w fun r w' => r = .returned (.tuple #[.string (bs (spanL nmCh l).1), .string (bs (spanL nmCh l).2)]) ∧ Kp [] w w' := by
 have h := take_any l 4 w (by decide)
 rw [inC_name] at h
 exact h
theorem take8 (l : List UInt8) (w : World) : Calls Tryz.prog 104 #[.string (bs l), .int .i64 8] w fun r w' => r = .returned (.tuple #[.string (bs (spanL opCh l).1), .string (bs (spanL opCh l).2)]) ∧ Kp [] w w' := by
 have h := take_any l 8 w (by decide)
 rw [inC_op] at h
 exact h
theorem prefix_yes (c : UInt8) (l : List UInt8) : Lib.hasPrefix (c :: l) [c] = true ∧ Lib.trimPrefix (c :: l) [c] = l := by
 have h : Lib.hasPrefix (c :: l) [c] = true := by simp [Lib.hasPrefix, List.isPrefixOf]
 exact ⟨h, by simp [Lib.trimPrefix, h]⟩
theorem prefix_no (c : UInt8) (l : List UInt8) (hl : ∀ r, l ≠ c :: r) : Lib.hasPrefix l [c] = false ∧ Lib.trimPrefix l [c] = l := by
 have h : Lib.hasPrefix l [c] = false := by
  cases l with
  | nil => rfl
  | cons b r =>
   simp only [Lib.hasPrefix, List.isPrefixOf, Bool.and_true]
   exact beq_eq_false_iff_ne.2 fun e => hl r (by rw [e])
 exact ⟨h, by simp [Lib.trimPrefix, h]⟩
theorem cutp_yes (c : UInt8) (l : List UInt8) (w : World) : Calls Tryz.prog 105 #[.string (bs (c :: l)), .string ⟨#[c]⟩] w fun r w' => r = .returned (.tuple #[.string (bs l), .bool true]) ∧ w' = w := by
 have h := Tryz.strings_CutPrefix (bs (c :: l)) ⟨#[c]⟩ w
 rw [bs_data, show (⟨#[c]⟩ : ByteArray).data.toList = [c] from rfl, (prefix_yes c l).1, (prefix_yes c l).2] at h
 exact h
theorem cutp_no (c : UInt8) (l : List UInt8) (w : World) (hl : ∀ r, l ≠ c :: r) : Calls Tryz.prog 105 #[.string (bs l), .string ⟨#[c]⟩] w fun r w' => r = .returned (.tuple #[.string (bs l), .bool false]) ∧ w' = w := by
 have h := Tryz.strings_CutPrefix (bs l) ⟨#[c]⟩ w
 rw [bs_data, show (⟨#[c]⟩ : ByteArray).data.toList = [c] from rfl, (prefix_no c l hl).1, (prefix_no c l hl).2] at h
 exact h
theorem TAt.put0 {w : World} {b : Nat} {x : Tok} (h : TAt w b x) (l : List UInt8) : TAt (w.setCell ⟨b, 0, none⟩ (.string (bs l))) b { x with key := l } := by
 unfold TAt tokC at h ⊢
 simp [World.setCell, Array.getElem?_modify, h]
theorem TAt.put1 {w : World} {b : Nat} {x : Tok} (h : TAt w b x) (l : List UInt8) : TAt (w.setCell ⟨b, 1, none⟩ (.string (bs l))) b { x with name := l } := by
 unfold TAt tokC at h ⊢
 simp [World.setCell, Array.getElem?_modify, h]
theorem TAt.put2 {w : World} {b : Nat} {x : Tok} (h : TAt w b x) (l : List UInt8) : TAt (w.setCell ⟨b, 2, none⟩ (.string (bs l))) b { x with op := l } := by
 unfold TAt tokC at h ⊢
 simp [World.setCell, Array.getElem?_modify, h]
theorem TAt.put3 {w : World} {b : Nat} {x : Tok} (h : TAt w b x) (l : List UInt8) : TAt (w.setCell ⟨b, 3, none⟩ (.string (bs l))) b { x with val := l } := by
 unfold TAt tokC at h ⊢
 simp [World.setCell, Array.getElem?_modify, h]
theorem TAt.frz {w : World} {b o : Nat} {x : Tok} (h : TAt w b x) : w.frozen? ⟨b, o, none⟩ = false := by simp [World.frozen?, show w.heap[b]? = _ from h]
theorem TAt.other {w : World} {b : Nat} {x : Tok} (h : TAt w b x) {p : Addr} (hp : b ≠ p.block) (v : Value) : TAt (w.setCell p v) b x := (Below.heap_setCell _ _ _ _ hp).trans h
/-- A whole token laid over a block that holds one. -/
theorem TAt.all {w : World} {b : Nat} {x : Tok} (h : TAt w b x) (y : Tok) : TAt ((((w.setCell ⟨b, 0, none⟩ (.string (bs y.key))).setCell ⟨b, 1, none⟩ (.string (bs y.name))).setCell ⟨b, 2, none⟩ (.string (bs y.op))).setCell ⟨b, 3, none⟩ (.string (bs y.val))) b y :=
 (((h.put0 y.key).put1 y.name).put2 y.op).put3 y.val
set_option maxHeartbeats 1000000 in
theorem beg_end {a : Act} {W : World} {R : Nat} {t : Tok} {b e : Value} {Q : Ending → World → Prop} (h : TAt W R t) (h2 : a.tmps.getD 2 undef = .pointer (some ⟨R, 0, none⟩)) (h3 : a.tmps.getD 3 undef = b) (h4 : a.tmps.getD 4 undef = e) (hd : a.defers = [])
  (hq : Q (.returned (.tuple #[.agg (tokC t), b, e])) W) : bodyPost Tryz.prog Tryz.f73 Q .ret a W := by
 obtain ⟨z0, z1, z2, z3⟩ := h.cells
 refine bodyPost_ret (v := .tuple #[.agg (tokC t), b, e]) ?_ hd hq
 rw [Array.getD_eq_getD_getElem?] at h2 h3 h4
 simp [results, Tryz.results73, go_sem, h2, h3, h4, z0, z1, z2, z3]
 rfl
def begM (kk : List UInt8) : List UInt8 → Rd Tok
 | 123 :: s1 => (match (spanL nmCh s1).2 with
  | [] => .cut
  | c :: s2 => if (spanL nmCh s1).1 = [] ∨ c ≠ 125 then .bad else begO kk (spanL nmCh s1).1 s2)
 | s1 => begO kk [] s1
theorem begL_at {s kk r1 : List UInt8} (h : spanL upCh s = (kk, r1)) : begL s = if kk = [] then .bad else begM kk r1 := by
 unfold begL begM
 rw [h]
 rfl
def opM (k n oo : List UInt8) : List UInt8 → Rd Tok
 | 34 :: r => .ok ⟨k, n, oo, []⟩ r
 | _ => .bad
theorem begO_at {k n x oo r3 : List UInt8} (h : spanL opCh x = (oo, r3)) : begO k n x = if opsL.contains oo then opM k n oo r3 else .bad := by
 unfold begO opB opM
 rw [h]
 split
 ·cases r3 with
  | nil => rfl
  | cons c r =>
   simp only
   by_cases hc : c = 34
   ·subst hc
    rfl
   ·split
    ·rename_i h2
     cases h2
     exact absurd rfl hc
    ·split
     ·rename_i h2
      cases h2
      exact absurd rfl hc
     ·rfl
 ·rfl
theorem begO_bad {k n x oo r3 : List UInt8} (h : spanL opCh x = (oo, r3)) (ho : opsL.contains oo = false) : begO k n x = .bad := by
 rw [begO_at h, if_neg (by rw [ho]; exact Bool.false_ne_true)]
theorem begO_no {k n x oo r3 : List UInt8} (h : spanL opCh x = (oo, r3)) (hr : ∀ r, r3 ≠ 34 :: r) : begO k n x = .bad := by
 rw [begO_at h]
 split
 ·unfold opM
  split
  ·rename_i r
   exact absurd rfl (hr r)
  ·rfl
 ·rfl
theorem begO_ok {k n x oo r : List UInt8} (h : spanL opCh x = (oo, 34 :: r)) (ho : opsL.contains oo = true) : begO k n x = .ok ⟨k, n, oo, []⟩ r := by
 rw [begO_at h, if_pos ho]
 rfl
theorem begM_plain {kk r1 : List UInt8} (hr : ∀ r, r1 ≠ 123 :: r) : begM kk r1 = begO kk [] r1 := by
 unfold begM
 split
 ·rename_i s1
  exact absurd rfl (hr s1)
 ·rfl
def nmM (kk nn : List UInt8) : List UInt8 → Rd Tok
 | [] => .cut
 | c :: s2 => if nn = [] ∨ c ≠ 125 then .bad else begO kk nn s2
theorem begM_brace {kk s1 nn r2 : List UInt8} (h : spanL nmCh s1 = (nn, r2)) : begM kk (123 :: s1) = nmM kk nn r2 := by
 unfold begM nmM
 simp only [h]
set_option maxHeartbeats 4000000 in
set_option maxRecDepth 100000 in
theorem begin_any (s : List UInt8) (w : World) : Calls Tryz.prog 73 #[.string (bs s)] w fun r w' => r = .returned (begV (begL s)) ∧ Kp [] w w' := by
 obtain ⟨R, hR⟩ : ∃ R, w.heap.size = R := ⟨_, rfl⟩
 obtain ⟨T, hT⟩ : ∃ T, R + 1 = T := ⟨_, rfl⟩
 obtain ⟨W0, hW⟩ : ∃ W0, (w.alloc (.cells #[.string ⟨#[]⟩, .string ⟨#[]⟩, .string ⟨#[]⟩, .string ⟨#[]⟩] 81)).alloc (.cells #[.string ⟨#[]⟩, .string ⟨#[]⟩, .string ⟨#[]⟩, .string ⟨#[]⟩] 81) = W0 := ⟨_, rfl⟩
 have hK : Kp [] w W0 := by rw [← hW]; exact ((Kp.refl [] w).alloc _).alloc _
 have hTA : TAt W0 T tok0 := by
  have h := heap_alloc_last (w.alloc (.cells #[.string ⟨#[]⟩, .string ⟨#[]⟩, .string ⟨#[]⟩, .string ⟨#[]⟩] 81)) (.cells #[.string ⟨#[]⟩, .string ⟨#[]⟩, .string ⟨#[]⟩, .string ⟨#[]⟩] 81)
  rw [hW, show (w.alloc (.cells #[.string ⟨#[]⟩, .string ⟨#[]⟩, .string ⟨#[]⟩, .string ⟨#[]⟩] 81)).heap.size = T by simp; omega] at h
  exact h
 have hRA : TAt W0 R tok0 := by
  have h := heap_alloc_last w (.cells #[.string ⟨#[]⟩, .string ⟨#[]⟩, .string ⟨#[]⟩, .string ⟨#[]⟩] 81)
  rw [← hW, ← hR]
  exact (((Kp.refl [] _).alloc _).block _ (by simp) (by simp)).trans h
 have hRT : R ≠ T := by omega
 have hTR : T ≠ R := by omega
 have hRw : w.heap.size ≤ R := by omega
 have hTw : w.heap.size ≤ T := by omega
 obtain ⟨c0, c1, c2, c3⟩ := hTA.cells
 have he0 : (bs []).toList.isEmpty = true := bs_isEmpty []
 have cf := fun o => hTA.frz (o := o)
 have rf := fun o => hRA.frz (o := o)
 have HK := Lib.hid hK
 have HT := Lib.hid hTA
 have HR := Lib.hid hRA
 have H2 := Lib.hid fun W => take2 s W
 clear hK hTA hRA
 obtain ⟨kk, r1, hsp⟩ : ∃ kk r1, spanL upCh s = (kk, r1) := ⟨_, _, rfl⟩
 have hbe := begL_at hsp
 rw [hsp] at H2
 simp only at H2
 have HSP := Lib.hid hsp
 clear hsp
 cases kk with
 | nil =>
  rw [if_pos rfl] at hbe
  rw [hbe]
  clear hbe
  go_enter Tryz.func73, Tryz.ntmps73
  go_wp2_with (first
   | (go_at_call 104; refine Calls.mono (by with_reducible exact H2.out _) ?_; rintro r w1 ⟨rfl, hk⟩; have HK1 := Lib.hid ((HK.out).trans hk); have HT1 := Lib.hid ((HT.out).kp hk (by simp)); have HR1 := Lib.hid ((HR.out).kp hk (by simp)); clear hk; obtain ⟨d10, d11, d12, d13⟩ := HT1.out.cells; obtain ⟨e10, e11, e12, e13⟩ := HR1.out.cells; have df1 := fun o => HT1.out.frz (o := o); have ef1 := fun o => HR1.out.frz (o := o)))
  refine beg_end (TAt.all (HR1.out.other (p := ⟨T, 0, none⟩) hRT (.string (bs []))) tok0) rfl rfl rfl rfl ⟨rfl, ?_⟩
  exact (((((HK1.out.setCell (.inr hTw) _).setCell (.inr hRw) _).setCell (.inr hRw) _).setCell (.inr hRw) _).setCell (.inr hRw) _)
 | cons k0 k1 =>
  have hkk : k0 :: k1 ≠ [] := by simp
  have hke : (bs (k0 :: k1)).toList.isEmpty = false := bs_isEmpty _
  rw [if_neg hkk] at hbe
  generalize k0 :: k1 = kk at *
  by_cases hbr : ∃ s1, r1 = 123 :: s1
  ·obtain ⟨s1, rfl⟩ := hbr
   have HC := Lib.hid fun W => cutp_yes 123 s1 W
   have H4 := Lib.hid fun W => take4 s1 W
   obtain ⟨nn, r2, hsn⟩ : ∃ nn r2, spanL nmCh s1 = (nn, r2) := ⟨_, _, rfl⟩
   have hbm := begM_brace (kk := kk) hsn
   rw [hbm] at hbe
   rw [hsn] at H4
   simp only at H4
   clear hsn hbm
   cases r2 with
   | nil =>
    simp only [nmM] at hbe
    rw [hbe]
    clear hbe
    go_enter Tryz.func73, Tryz.ntmps73
    go_wp2_with (first
     | (go_at_call 104; refine Calls.mono (by with_reducible exact H2.out _) ?_; rintro r w1 ⟨rfl, hk⟩; have HK1 := Lib.hid ((HK.out).trans hk); have HT1 := Lib.hid ((HT.out).kp hk (by simp)); have HR1 := Lib.hid ((HR.out).kp hk (by simp)); clear hk; obtain ⟨d10, d11, d12, d13⟩ := HT1.out.cells; obtain ⟨e10, e11, e12, e13⟩ := HR1.out.cells; have df1 := fun o => HT1.out.frz (o := o); have ef1 := fun o => HR1.out.frz (o := o))
     | (go_at_call 105; refine Calls.mono (by with_reducible exact HC.out _) ?_; rintro r w9 ⟨rfl, rfl⟩)
     | (go_at_call 104; refine Calls.mono (by with_reducible exact H4.out _) ?_; rintro r w2 ⟨rfl, hk⟩; have HK2 := Lib.hid ((HK1.out.setCell (p := ⟨T, 0, none⟩) (.inr hTw) (.string (bs kk))).trans hk); have HT2 := Lib.hid ((HT1.out.put0 kk).kp hk (by simp)); have HR2 := Lib.hid ((HR1.out.other (p := ⟨T, 0, none⟩) hRT (.string (bs kk))).kp hk (by simp)); clear hk; obtain ⟨d20, d21, d22, d23⟩ := HT2.out.cells; obtain ⟨e20, e21, e22, e23⟩ := HR2.out.cells; have df2 := fun o => HT2.out.frz (o := o); have ef2 := fun o => HR2.out.frz (o := o)))
    refine beg_end (TAt.all (HR2.out.other (p := ⟨T, 1, none⟩) hRT (.string (bs nn))) tok0) rfl rfl rfl rfl ⟨rfl, ?_⟩
    exact (((((HK2.out.setCell (.inr hTw) _).setCell (.inr hRw) _).setCell (.inr hRw) _).setCell (.inr hRw) _).setCell (.inr hRw) _)
   | cons c s2 =>
    simp only [nmM] at hbe
    have h2e : (bs (c :: s2)).toList.isEmpty = false := bs_isEmpty _
    have hz : (0 : Int) < ((bs (c :: s2)).size : Int) := by rw [bs_size]; simp
    have hz1 : (1 : Int) ≤ ((bs (c :: s2)).size : Int) := by rw [bs_size]; simp; omega
    cases nn with
    | nil =>
     rw [if_pos (.inl rfl)] at hbe
     rw [hbe]
     clear hbe
     go_enter Tryz.func73, Tryz.ntmps73
     go_wp2_with (first
      | (go_at_call 104; refine Calls.mono (by with_reducible exact H2.out _) ?_; rintro r w1 ⟨rfl, hk⟩; have HK1 := Lib.hid ((HK.out).trans hk); have HT1 := Lib.hid ((HT.out).kp hk (by simp)); have HR1 := Lib.hid ((HR.out).kp hk (by simp)); clear hk; obtain ⟨d10, d11, d12, d13⟩ := HT1.out.cells; obtain ⟨e10, e11, e12, e13⟩ := HR1.out.cells; have df1 := fun o => HT1.out.frz (o := o); have ef1 := fun o => HR1.out.frz (o := o))
      | (go_at_call 105; refine Calls.mono (by with_reducible exact HC.out _) ?_; rintro r w9 ⟨rfl, rfl⟩)
      | (go_at_call 104; refine Calls.mono (by with_reducible exact H4.out _) ?_; rintro r w2 ⟨rfl, hk⟩; have HK2 := Lib.hid ((HK1.out.setCell (p := ⟨T, 0, none⟩) (.inr hTw) (.string (bs kk))).trans hk); have HT2 := Lib.hid ((HT1.out.put0 kk).kp hk (by simp)); have HR2 := Lib.hid ((HR1.out.other (p := ⟨T, 0, none⟩) hRT (.string (bs kk))).kp hk (by simp)); clear hk; obtain ⟨d20, d21, d22, d23⟩ := HT2.out.cells; obtain ⟨e20, e21, e22, e23⟩ := HR2.out.cells; have df2 := fun o => HT2.out.frz (o := o); have ef2 := fun o => HR2.out.frz (o := o)))
     refine beg_end (TAt.all (HR2.out.other (p := ⟨T, 1, none⟩) hRT (.string (bs []))) tok0) rfl rfl rfl rfl ⟨rfl, ?_⟩
     exact (((((HK2.out.setCell (.inr hTw) _).setCell (.inr hRw) _).setCell (.inr hRw) _).setCell (.inr hRw) _).setCell (.inr hRw) _)
    | cons n0 n1 =>
     have hnn : n0 :: n1 ≠ [] := by simp
     have hne : (bs (n0 :: n1)).toList.isEmpty = false := bs_isEmpty _
     generalize n0 :: n1 = nn at *
     have hh : (bs (c :: s2))[0]'(by rw [bs_size]; simp) = c := rfl
     by_cases hc : c = 125
     ·have hcn : ((c.toNat : Int) != 125) = false := by rw [hc]; rfl
      rw [if_neg (by simp [hnn, hc])] at hbe
      have H8 := Lib.hid fun W => take8 s2 W
      have hex : bs s2 = (bs (c :: s2)).extract 1 (bs (c :: s2)).size := by rw [bs_drop]; rfl
      rw [hex] at H8
      clear hex hc
      obtain ⟨oo, r3, hso⟩ : ∃ oo r3, spanL opCh s2 = (oo, r3) := ⟨_, _, rfl⟩
      rw [hso] at H8
      simp only at H8
      have HO := Lib.hid fun W => isOp_any oo W
      by_cases hq : ∃ r, r3 = 34 :: r
      ·obtain ⟨r, rfl⟩ := hq
       have HQ := Lib.hid fun W => cutp_yes 34 r W
       cases hoo : opsL.contains oo with
       | false =>
        rw [hoo] at HO
        rw [begO_bad hso hoo] at hbe
        rw [hbe]
        clear hbe hso hoo
        go_enter Tryz.func73, Tryz.ntmps73
        go_wp2_with (first
         | (go_at_call 104; refine Calls.mono (by with_reducible exact H2.out _) ?_; rintro r w1 ⟨rfl, hk⟩; have HK1 := Lib.hid ((HK.out).trans hk); have HT1 := Lib.hid ((HT.out).kp hk (by simp)); have HR1 := Lib.hid ((HR.out).kp hk (by simp)); clear hk; obtain ⟨d10, d11, d12, d13⟩ := HT1.out.cells; obtain ⟨e10, e11, e12, e13⟩ := HR1.out.cells; have df1 := fun o => HT1.out.frz (o := o); have ef1 := fun o => HR1.out.frz (o := o))
         | (go_at_call 105; refine Calls.mono (by with_reducible exact HC.out _) ?_; rintro r w9 ⟨rfl, rfl⟩)
         | (go_at_call 104; refine Calls.mono (by with_reducible exact H4.out _) ?_; rintro r w2 ⟨rfl, hk⟩; have HK2 := Lib.hid ((HK1.out.setCell (p := ⟨T, 0, none⟩) (.inr hTw) (.string (bs kk))).trans hk); have HT2 := Lib.hid ((HT1.out.put0 kk).kp hk (by simp)); have HR2 := Lib.hid ((HR1.out.other (p := ⟨T, 0, none⟩) hRT (.string (bs kk))).kp hk (by simp)); clear hk; obtain ⟨d20, d21, d22, d23⟩ := HT2.out.cells; obtain ⟨e20, e21, e22, e23⟩ := HR2.out.cells; have df2 := fun o => HT2.out.frz (o := o); have ef2 := fun o => HR2.out.frz (o := o))
         | (go_at_call 104; refine Calls.mono (by with_reducible exact H8.out _) ?_; rintro r w3 ⟨rfl, hk⟩; have HK3 := Lib.hid ((HK2.out.setCell (p := ⟨T, 1, none⟩) (.inr hTw) (.string (bs nn))).trans hk); have HT3 := Lib.hid ((HT2.out.put1 nn).kp hk (by simp)); have HR3 := Lib.hid ((HR2.out.other (p := ⟨T, 1, none⟩) hRT (.string (bs nn))).kp hk (by simp)); clear hk; obtain ⟨d30, d31, d32, d33⟩ := HT3.out.cells; obtain ⟨e30, e31, e32, e33⟩ := HR3.out.cells; have df3 := fun o => HT3.out.frz (o := o); have ef3 := fun o => HR3.out.frz (o := o))
         | (go_at_call 105; refine Calls.mono (by with_reducible exact HQ.out _) ?_; rintro r w9 ⟨rfl, rfl⟩)
         | (go_at_call 106; refine Calls.mono (by with_reducible exact HO.out _) ?_; rintro r w9 ⟨rfl, rfl⟩))
        refine beg_end (TAt.all (HR3.out.other (p := ⟨T, 2, none⟩) hRT (.string (bs oo))) tok0) rfl rfl rfl rfl ⟨rfl, ?_⟩
        exact (((((HK3.out.setCell (.inr hTw) _).setCell (.inr hRw) _).setCell (.inr hRw) _).setCell (.inr hRw) _).setCell (.inr hRw) _)
       | true =>
        rw [hoo] at HO
        rw [begO_ok hso hoo] at hbe
        rw [hbe]
        clear hbe hso hoo
        go_enter Tryz.func73, Tryz.ntmps73
        go_wp2_with (first
         | (go_at_call 104; refine Calls.mono (by with_reducible exact H2.out _) ?_; rintro r w1 ⟨rfl, hk⟩; have HK1 := Lib.hid ((HK.out).trans hk); have HT1 := Lib.hid ((HT.out).kp hk (by simp)); have HR1 := Lib.hid ((HR.out).kp hk (by simp)); clear hk; obtain ⟨d10, d11, d12, d13⟩ := HT1.out.cells; obtain ⟨e10, e11, e12, e13⟩ := HR1.out.cells; have df1 := fun o => HT1.out.frz (o := o); have ef1 := fun o => HR1.out.frz (o := o))
         | (go_at_call 105; refine Calls.mono (by with_reducible exact HC.out _) ?_; rintro r w9 ⟨rfl, rfl⟩)
         | (go_at_call 104; refine Calls.mono (by with_reducible exact H4.out _) ?_; rintro r w2 ⟨rfl, hk⟩; have HK2 := Lib.hid ((HK1.out.setCell (p := ⟨T, 0, none⟩) (.inr hTw) (.string (bs kk))).trans hk); have HT2 := Lib.hid ((HT1.out.put0 kk).kp hk (by simp)); have HR2 := Lib.hid ((HR1.out.other (p := ⟨T, 0, none⟩) hRT (.string (bs kk))).kp hk (by simp)); clear hk; obtain ⟨d20, d21, d22, d23⟩ := HT2.out.cells; obtain ⟨e20, e21, e22, e23⟩ := HR2.out.cells; have df2 := fun o => HT2.out.frz (o := o); have ef2 := fun o => HR2.out.frz (o := o))
         | (go_at_call 104; refine Calls.mono (by with_reducible exact H8.out _) ?_; rintro r w3 ⟨rfl, hk⟩; have HK3 := Lib.hid ((HK2.out.setCell (p := ⟨T, 1, none⟩) (.inr hTw) (.string (bs nn))).trans hk); have HT3 := Lib.hid ((HT2.out.put1 nn).kp hk (by simp)); have HR3 := Lib.hid ((HR2.out.other (p := ⟨T, 1, none⟩) hRT (.string (bs nn))).kp hk (by simp)); clear hk; obtain ⟨d30, d31, d32, d33⟩ := HT3.out.cells; obtain ⟨e30, e31, e32, e33⟩ := HR3.out.cells; have df3 := fun o => HT3.out.frz (o := o); have ef3 := fun o => HR3.out.frz (o := o))
         | (go_at_call 105; refine Calls.mono (by with_reducible exact HQ.out _) ?_; rintro r w9 ⟨rfl, rfl⟩)
         | (go_at_call 106; refine Calls.mono (by with_reducible exact HO.out _) ?_; rintro r w9 ⟨rfl, rfl⟩))
        refine beg_end (TAt.all (HR3.out.other (p := ⟨T, 2, none⟩) hRT (.string (bs oo))) ⟨kk, nn, oo, []⟩) rfl rfl rfl rfl ⟨rfl, ?_⟩
        exact (((((HK3.out.setCell (.inr hTw) _).setCell (.inr hRw) _).setCell (.inr hRw) _).setCell (.inr hRw) _).setCell (.inr hRw) _)
      ·have hq2 : ∀ r, r3 ≠ 34 :: r := fun r h => hq ⟨r, h⟩
       have HQ := Lib.hid fun W => cutp_no 34 r3 W hq2
       rw [begO_no hso hq2] at hbe
       rw [hbe]
       clear hbe hso hq hq2
       cases hoo : opsL.contains oo with
       | false =>
        rw [hoo] at HO
        clear hoo
        go_enter Tryz.func73, Tryz.ntmps73
        go_wp2_with (first
         | (go_at_call 104; refine Calls.mono (by with_reducible exact H2.out _) ?_; rintro r w1 ⟨rfl, hk⟩; have HK1 := Lib.hid ((HK.out).trans hk); have HT1 := Lib.hid ((HT.out).kp hk (by simp)); have HR1 := Lib.hid ((HR.out).kp hk (by simp)); clear hk; obtain ⟨d10, d11, d12, d13⟩ := HT1.out.cells; obtain ⟨e10, e11, e12, e13⟩ := HR1.out.cells; have df1 := fun o => HT1.out.frz (o := o); have ef1 := fun o => HR1.out.frz (o := o))
         | (go_at_call 105; refine Calls.mono (by with_reducible exact HC.out _) ?_; rintro r w9 ⟨rfl, rfl⟩)
         | (go_at_call 104; refine Calls.mono (by with_reducible exact H4.out _) ?_; rintro r w2 ⟨rfl, hk⟩; have HK2 := Lib.hid ((HK1.out.setCell (p := ⟨T, 0, none⟩) (.inr hTw) (.string (bs kk))).trans hk); have HT2 := Lib.hid ((HT1.out.put0 kk).kp hk (by simp)); have HR2 := Lib.hid ((HR1.out.other (p := ⟨T, 0, none⟩) hRT (.string (bs kk))).kp hk (by simp)); clear hk; obtain ⟨d20, d21, d22, d23⟩ := HT2.out.cells; obtain ⟨e20, e21, e22, e23⟩ := HR2.out.cells; have df2 := fun o => HT2.out.frz (o := o); have ef2 := fun o => HR2.out.frz (o := o))
         | (go_at_call 104; refine Calls.mono (by with_reducible exact H8.out _) ?_; rintro r w3 ⟨rfl, hk⟩; have HK3 := Lib.hid ((HK2.out.setCell (p := ⟨T, 1, none⟩) (.inr hTw) (.string (bs nn))).trans hk); have HT3 := Lib.hid ((HT2.out.put1 nn).kp hk (by simp)); have HR3 := Lib.hid ((HR2.out.other (p := ⟨T, 1, none⟩) hRT (.string (bs nn))).kp hk (by simp)); clear hk; obtain ⟨d30, d31, d32, d33⟩ := HT3.out.cells; obtain ⟨e30, e31, e32, e33⟩ := HR3.out.cells; have df3 := fun o => HT3.out.frz (o := o); have ef3 := fun o => HR3.out.frz (o := o))
         | (go_at_call 105; refine Calls.mono (by with_reducible exact HQ.out _) ?_; rintro r w9 ⟨rfl, rfl⟩)
         | (go_at_call 106; refine Calls.mono (by with_reducible exact HO.out _) ?_; rintro r w9 ⟨rfl, rfl⟩))
        refine beg_end (TAt.all (HR3.out.other (p := ⟨T, 2, none⟩) hRT (.string (bs oo))) tok0) rfl rfl rfl rfl ⟨rfl, ?_⟩
        exact (((((HK3.out.setCell (.inr hTw) _).setCell (.inr hRw) _).setCell (.inr hRw) _).setCell (.inr hRw) _).setCell (.inr hRw) _)
       | true =>
        rw [hoo] at HO
        clear hoo
        go_enter Tryz.func73, Tryz.ntmps73
        go_wp2_with (first
         | (go_at_call 104; refine Calls.mono (by with_reducible exact H2.out _) ?_; rintro r w1 ⟨rfl, hk⟩; have HK1 := Lib.hid ((HK.out).trans hk); have HT1 := Lib.hid ((HT.out).kp hk (by simp)); have HR1 := Lib.hid ((HR.out).kp hk (by simp)); clear hk; obtain ⟨d10, d11, d12, d13⟩ := HT1.out.cells; obtain ⟨e10, e11, e12, e13⟩ := HR1.out.cells; have df1 := fun o => HT1.out.frz (o := o); have ef1 := fun o => HR1.out.frz (o := o))
         | (go_at_call 105; refine Calls.mono (by with_reducible exact HC.out _) ?_; rintro r w9 ⟨rfl, rfl⟩)
         | (go_at_call 104; refine Calls.mono (by with_reducible exact H4.out _) ?_; rintro r w2 ⟨rfl, hk⟩; have HK2 := Lib.hid ((HK1.out.setCell (p := ⟨T, 0, none⟩) (.inr hTw) (.string (bs kk))).trans hk); have HT2 := Lib.hid ((HT1.out.put0 kk).kp hk (by simp)); have HR2 := Lib.hid ((HR1.out.other (p := ⟨T, 0, none⟩) hRT (.string (bs kk))).kp hk (by simp)); clear hk; obtain ⟨d20, d21, d22, d23⟩ := HT2.out.cells; obtain ⟨e20, e21, e22, e23⟩ := HR2.out.cells; have df2 := fun o => HT2.out.frz (o := o); have ef2 := fun o => HR2.out.frz (o := o))
         | (go_at_call 104; refine Calls.mono (by with_reducible exact H8.out _) ?_; rintro r w3 ⟨rfl, hk⟩; have HK3 := Lib.hid ((HK2.out.setCell (p := ⟨T, 1, none⟩) (.inr hTw) (.string (bs nn))).trans hk); have HT3 := Lib.hid ((HT2.out.put1 nn).kp hk (by simp)); have HR3 := Lib.hid ((HR2.out.other (p := ⟨T, 1, none⟩) hRT (.string (bs nn))).kp hk (by simp)); clear hk; obtain ⟨d30, d31, d32, d33⟩ := HT3.out.cells; obtain ⟨e30, e31, e32, e33⟩ := HR3.out.cells; have df3 := fun o => HT3.out.frz (o := o); have ef3 := fun o => HR3.out.frz (o := o))
         | (go_at_call 105; refine Calls.mono (by with_reducible exact HQ.out _) ?_; rintro r w9 ⟨rfl, rfl⟩)
         | (go_at_call 106; refine Calls.mono (by with_reducible exact HO.out _) ?_; rintro r w9 ⟨rfl, rfl⟩))
        refine beg_end (TAt.all (HR3.out.other (p := ⟨T, 2, none⟩) hRT (.string (bs oo))) tok0) rfl rfl rfl rfl ⟨rfl, ?_⟩
        exact (((((HK3.out.setCell (.inr hTw) _).setCell (.inr hRw) _).setCell (.inr hRw) _).setCell (.inr hRw) _).setCell (.inr hRw) _)
     ·have hcn : ((c.toNat : Int) != 125) = true := by
       simp only [bne_iff_ne, ne_eq]
       intro h
       exact hc (UInt8.toNat_inj.1 (by have : (125 : UInt8).toNat = 125 := rfl; omega))
      rw [if_pos (.inr hc)] at hbe
      rw [hbe]
      clear hbe hc
      go_enter Tryz.func73, Tryz.ntmps73
      go_wp2_with (first
       | (go_at_call 104; refine Calls.mono (by with_reducible exact H2.out _) ?_; rintro r w1 ⟨rfl, hk⟩; have HK1 := Lib.hid ((HK.out).trans hk); have HT1 := Lib.hid ((HT.out).kp hk (by simp)); have HR1 := Lib.hid ((HR.out).kp hk (by simp)); clear hk; obtain ⟨d10, d11, d12, d13⟩ := HT1.out.cells; obtain ⟨e10, e11, e12, e13⟩ := HR1.out.cells; have df1 := fun o => HT1.out.frz (o := o); have ef1 := fun o => HR1.out.frz (o := o))
       | (go_at_call 105; refine Calls.mono (by with_reducible exact HC.out _) ?_; rintro r w9 ⟨rfl, rfl⟩)
       | (go_at_call 104; refine Calls.mono (by with_reducible exact H4.out _) ?_; rintro r w2 ⟨rfl, hk⟩; have HK2 := Lib.hid ((HK1.out.setCell (p := ⟨T, 0, none⟩) (.inr hTw) (.string (bs kk))).trans hk); have HT2 := Lib.hid ((HT1.out.put0 kk).kp hk (by simp)); have HR2 := Lib.hid ((HR1.out.other (p := ⟨T, 0, none⟩) hRT (.string (bs kk))).kp hk (by simp)); clear hk; obtain ⟨d20, d21, d22, d23⟩ := HT2.out.cells; obtain ⟨e20, e21, e22, e23⟩ := HR2.out.cells; have df2 := fun o => HT2.out.frz (o := o); have ef2 := fun o => HR2.out.frz (o := o)))
      refine beg_end (TAt.all (HR2.out.other (p := ⟨T, 1, none⟩) hRT (.string (bs nn))) tok0) rfl rfl rfl rfl ⟨rfl, ?_⟩
      exact (((((HK2.out.setCell (.inr hTw) _).setCell (.inr hRw) _).setCell (.inr hRw) _).setCell (.inr hRw) _).setCell (.inr hRw) _)
  ·have hbr2 : ∀ r, r1 ≠ 123 :: r := fun r h => hbr ⟨r, h⟩
   rw [begM_plain hbr2] at hbe
   have HC := Lib.hid fun W => cutp_no 123 r1 W hbr2
   have H8 := Lib.hid fun W => take8 r1 W
   clear hbr hbr2
   obtain ⟨oo, r3, hso⟩ : ∃ oo r3, spanL opCh r1 = (oo, r3) := ⟨_, _, rfl⟩
   rw [hso] at H8
   simp only at H8
   have HO := Lib.hid fun W => isOp_any oo W
   by_cases hq : ∃ r, r3 = 34 :: r
   ·obtain ⟨r, rfl⟩ := hq
    have HQ := Lib.hid fun W => cutp_yes 34 r W
    cases hoo : opsL.contains oo with
    | false =>
     rw [hoo] at HO
     rw [begO_bad hso hoo] at hbe
     rw [hbe]
     clear hbe hso hoo
     go_enter Tryz.func73, Tryz.ntmps73
     go_wp2_with (first
      | (go_at_call 104; refine Calls.mono (by with_reducible exact H2.out _) ?_; rintro r w1 ⟨rfl, hk⟩; have HK1 := Lib.hid ((HK.out).trans hk); have HT1 := Lib.hid ((HT.out).kp hk (by simp)); have HR1 := Lib.hid ((HR.out).kp hk (by simp)); clear hk; obtain ⟨d10, d11, d12, d13⟩ := HT1.out.cells; obtain ⟨e10, e11, e12, e13⟩ := HR1.out.cells; have df1 := fun o => HT1.out.frz (o := o); have ef1 := fun o => HR1.out.frz (o := o))
      | (go_at_call 105; refine Calls.mono (by with_reducible exact HC.out _) ?_; rintro r w9 ⟨rfl, rfl⟩)
      | (go_at_call 104; refine Calls.mono (by with_reducible exact H8.out _) ?_; rintro r w3 ⟨rfl, hk⟩; have HK3 := Lib.hid ((HK1.out.setCell (p := ⟨T, 0, none⟩) (.inr hTw) (.string (bs kk))).trans hk); have HT3 := Lib.hid ((HT1.out.put0 kk).kp hk (by simp)); have HR3 := Lib.hid ((HR1.out.other (p := ⟨T, 0, none⟩) hRT (.string (bs kk))).kp hk (by simp)); clear hk; obtain ⟨d30, d31, d32, d33⟩ := HT3.out.cells; obtain ⟨e30, e31, e32, e33⟩ := HR3.out.cells; have df3 := fun o => HT3.out.frz (o := o); have ef3 := fun o => HR3.out.frz (o := o))
      | (go_at_call 105; refine Calls.mono (by with_reducible exact HQ.out _) ?_; rintro r w9 ⟨rfl, rfl⟩)
      | (go_at_call 106; refine Calls.mono (by with_reducible exact HO.out _) ?_; rintro r w9 ⟨rfl, rfl⟩))
     refine beg_end (TAt.all (HR3.out.other (p := ⟨T, 2, none⟩) hRT (.string (bs oo))) tok0) rfl rfl rfl rfl ⟨rfl, ?_⟩
     exact (((((HK3.out.setCell (.inr hTw) _).setCell (.inr hRw) _).setCell (.inr hRw) _).setCell (.inr hRw) _).setCell (.inr hRw) _)
    | true =>
     rw [hoo] at HO
     rw [begO_ok hso hoo] at hbe
     rw [hbe]
     clear hbe hso hoo
     go_enter Tryz.func73, Tryz.ntmps73
     go_wp2_with (first
      | (go_at_call 104; refine Calls.mono (by with_reducible exact H2.out _) ?_; rintro r w1 ⟨rfl, hk⟩; have HK1 := Lib.hid ((HK.out).trans hk); have HT1 := Lib.hid ((HT.out).kp hk (by simp)); have HR1 := Lib.hid ((HR.out).kp hk (by simp)); clear hk; obtain ⟨d10, d11, d12, d13⟩ := HT1.out.cells; obtain ⟨e10, e11, e12, e13⟩ := HR1.out.cells; have df1 := fun o => HT1.out.frz (o := o); have ef1 := fun o => HR1.out.frz (o := o))
      | (go_at_call 105; refine Calls.mono (by with_reducible exact HC.out _) ?_; rintro r w9 ⟨rfl, rfl⟩)
      | (go_at_call 104; refine Calls.mono (by with_reducible exact H8.out _) ?_; rintro r w3 ⟨rfl, hk⟩; have HK3 := Lib.hid ((HK1.out.setCell (p := ⟨T, 0, none⟩) (.inr hTw) (.string (bs kk))).trans hk); have HT3 := Lib.hid ((HT1.out.put0 kk).kp hk (by simp)); have HR3 := Lib.hid ((HR1.out.other (p := ⟨T, 0, none⟩) hRT (.string (bs kk))).kp hk (by simp)); clear hk; obtain ⟨d30, d31, d32, d33⟩ := HT3.out.cells; obtain ⟨e30, e31, e32, e33⟩ := HR3.out.cells; have df3 := fun o => HT3.out.frz (o := o); have ef3 := fun o => HR3.out.frz (o := o))
      | (go_at_call 105; refine Calls.mono (by with_reducible exact HQ.out _) ?_; rintro r w9 ⟨rfl, rfl⟩)
      | (go_at_call 106; refine Calls.mono (by with_reducible exact HO.out _) ?_; rintro r w9 ⟨rfl, rfl⟩))
     refine beg_end (TAt.all (HR3.out.other (p := ⟨T, 2, none⟩) hRT (.string (bs oo))) ⟨kk, [], oo, []⟩) rfl rfl rfl rfl ⟨rfl, ?_⟩
     exact (((((HK3.out.setCell (.inr hTw) _).setCell (.inr hRw) _).setCell (.inr hRw) _).setCell (.inr hRw) _).setCell (.inr hRw) _)
   ·have hq2 : ∀ r, r3 ≠ 34 :: r := fun r h => hq ⟨r, h⟩
    have HQ := Lib.hid fun W => cutp_no 34 r3 W hq2
    rw [begO_no hso hq2] at hbe
    rw [hbe]
    clear hbe hso hq hq2
    cases hoo : opsL.contains oo with
    | false =>
     rw [hoo] at HO
     clear hoo
     go_enter Tryz.func73, Tryz.ntmps73
     go_wp2_with (first
      | (go_at_call 104; refine Calls.mono (by with_reducible exact H2.out _) ?_; rintro r w1 ⟨rfl, hk⟩; have HK1 := Lib.hid ((HK.out).trans hk); have HT1 := Lib.hid ((HT.out).kp hk (by simp)); have HR1 := Lib.hid ((HR.out).kp hk (by simp)); clear hk; obtain ⟨d10, d11, d12, d13⟩ := HT1.out.cells; obtain ⟨e10, e11, e12, e13⟩ := HR1.out.cells; have df1 := fun o => HT1.out.frz (o := o); have ef1 := fun o => HR1.out.frz (o := o))
      | (go_at_call 105; refine Calls.mono (by with_reducible exact HC.out _) ?_; rintro r w9 ⟨rfl, rfl⟩)
      | (go_at_call 104; refine Calls.mono (by with_reducible exact H8.out _) ?_; rintro r w3 ⟨rfl, hk⟩; have HK3 := Lib.hid ((HK1.out.setCell (p := ⟨T, 0, none⟩) (.inr hTw) (.string (bs kk))).trans hk); have HT3 := Lib.hid ((HT1.out.put0 kk).kp hk (by simp)); have HR3 := Lib.hid ((HR1.out.other (p := ⟨T, 0, none⟩) hRT (.string (bs kk))).kp hk (by simp)); clear hk; obtain ⟨d30, d31, d32, d33⟩ := HT3.out.cells; obtain ⟨e30, e31, e32, e33⟩ := HR3.out.cells; have df3 := fun o => HT3.out.frz (o := o); have ef3 := fun o => HR3.out.frz (o := o))
      | (go_at_call 105; refine Calls.mono (by with_reducible exact HQ.out _) ?_; rintro r w9 ⟨rfl, rfl⟩)
      | (go_at_call 106; refine Calls.mono (by with_reducible exact HO.out _) ?_; rintro r w9 ⟨rfl, rfl⟩))
     refine beg_end (TAt.all (HR3.out.other (p := ⟨T, 2, none⟩) hRT (.string (bs oo))) tok0) rfl rfl rfl rfl ⟨rfl, ?_⟩
     exact (((((HK3.out.setCell (.inr hTw) _).setCell (.inr hRw) _).setCell (.inr hRw) _).setCell (.inr hRw) _).setCell (.inr hRw) _)
    | true =>
     rw [hoo] at HO
     clear hoo
     go_enter Tryz.func73, Tryz.ntmps73
     go_wp2_with (first
      | (go_at_call 104; refine Calls.mono (by with_reducible exact H2.out _) ?_; rintro r w1 ⟨rfl, hk⟩; have HK1 := Lib.hid ((HK.out).trans hk); have HT1 := Lib.hid ((HT.out).kp hk (by simp)); have HR1 := Lib.hid ((HR.out).kp hk (by simp)); clear hk; obtain ⟨d10, d11, d12, d13⟩ := HT1.out.cells; obtain ⟨e10, e11, e12, e13⟩ := HR1.out.cells; have df1 := fun o => HT1.out.frz (o := o); have ef1 := fun o => HR1.out.frz (o := o))
      | (go_at_call 105; refine Calls.mono (by with_reducible exact HC.out _) ?_; rintro r w9 ⟨rfl, rfl⟩)
      | (go_at_call 104; refine Calls.mono (by with_reducible exact H8.out _) ?_; rintro r w3 ⟨rfl, hk⟩; have HK3 := Lib.hid ((HK1.out.setCell (p := ⟨T, 0, none⟩) (.inr hTw) (.string (bs kk))).trans hk); have HT3 := Lib.hid ((HT1.out.put0 kk).kp hk (by simp)); have HR3 := Lib.hid ((HR1.out.other (p := ⟨T, 0, none⟩) hRT (.string (bs kk))).kp hk (by simp)); clear hk; obtain ⟨d30, d31, d32, d33⟩ := HT3.out.cells; obtain ⟨e30, e31, e32, e33⟩ := HR3.out.cells; have df3 := fun o => HT3.out.frz (o := o); have ef3 := fun o => HR3.out.frz (o := o))
      | (go_at_call 105; refine Calls.mono (by with_reducible exact HQ.out _) ?_; rintro r w9 ⟨rfl, rfl⟩)
      | (go_at_call 106; refine Calls.mono (by with_reducible exact HO.out _) ?_; rintro r w9 ⟨rfl, rfl⟩))
     refine beg_end (TAt.all (HR3.out.other (p := ⟨T, 2, none⟩) hRT (.string (bs oo))) tok0) rfl rfl rfl rfl ⟨rfl, ?_⟩
     exact (((((HK3.out.setCell (.inr hTw) _).setCell (.inr hRw) _).setCell (.inr hRw) _).setCell (.inr hRw) _).setCell (.inr hRw) _)
end Go.Proofs.YtkkibibecgcbmaaGreatDoor.Lx
namespace Go.Proofs.YtkkibibecgcbmaaGreatDoor.Lx
open Go.RowKit
/-- The tokens of a line, and the error's number. -/
def tokensE (s : List UInt8) : List Tok × Nat :=
 if 1024 < s.length then ([], 81) else if s.all lnCh = false then ([], 80) else
 match tokensL s with | .bad => ([], 82) | .cut => ([], 83) | .ok l _ => (l, 0)
def preT (xs : List Tok) : Rd (List Tok) → Rd (List Tok)
 | .bad => .bad
 | .cut => .cut
 | .ok l q => .ok (xs ++ l) q
theorem preT_nil (x : Rd (List Tok)) : preT [] x = x := by cases x <;> rfl
theorem preT_app (a b : List Tok) (x : Rd (List Tok)) : preT a (preT b x) = preT (a ++ b) x := by cases x <;> simp [preT]
theorem tokensF_begL (f : Nat) {s : List UInt8} (hs : s ≠ []) : tokensF (f + 1) s = match begL s with
  | .bad => .bad
  | .cut => .cut
  | .ok t body => match scanV false body with
   | .bad => .bad
   | .cut => .cut
   | .ok raw q => if q ≠ [] ∧ trimL q = q then .bad else preT [{ t with val := unescL raw }] (tokensF f (trimL q)) := by
 rw [tokensF, if_neg hs, tokenL_beg]
 cases begL s with
 | bad => rfl
 | cut => rfl
 | ok t body =>
  simp only
  cases scanV false body with
  | bad => rfl
  | cut => rfl
  | ok raw q =>
   simp only [Rd.map]
   split
   ·rfl
   ·cases tokensF f (trimL q) <;> rfl
theorem scanV_step (esc : Bool) (b : UInt8) (r : List UInt8) (h1 : ¬(b = 34 ∧ esc = false)) (h2 : b ≠ 9) : scanV esc (b :: r) = (scanV (b == 92) r).map (b :: ·) := by
 rw [scanV, if_neg h1, if_neg h2]
 cases scanV (b == 92) r <;> rfl
theorem Rd.map_map {α β γ : Type} (f : α → β) (g : β → γ) (x : Rd α) : (x.map f).map g = x.map (fun a => g (f a)) := by cases x <;> rfl
theorem scan_next {body : List UInt8} {pos : Nat} {x : UInt8} {esc : Bool} (hx : body[pos]? = some x) (h : scanV false body = (scanV esc (body.drop pos)).map (body.take pos ++ ·)) (h1 : ¬(x = 34 ∧ esc = false)) (h2 : x ≠ 9) :
  scanV false body = (scanV (x == 92) (body.drop (pos + 1))).map (body.take (pos + 1) ++ ·) := by
 have hlt := (List.getElem?_eq_some_iff.1 hx).1
 have hd : body.drop pos = x :: body.drop (pos + 1) := by
  rw [List.drop_eq_getElem_cons hlt]
  rw [(List.getElem?_eq_some_iff.1 hx).2]
 rw [h, hd, scanV_step esc x _ h1 h2, Rd.map_map]
 congr 1
 funext a
 rw [List.take_add_one, hx]
 simp
theorem scan_quote {body : List UInt8} {pos : Nat} {esc : Bool} (hx : body[pos]? = some 34) (h : scanV false body = (scanV esc (body.drop pos)).map (body.take pos ++ ·)) (h1 : esc = false) :
  scanV false body = .ok (body.take pos) (body.drop (pos + 1)) := by
 have hlt := (List.getElem?_eq_some_iff.1 hx).1
 have hd : body.drop pos = 34 :: body.drop (pos + 1) := by
  rw [List.drop_eq_getElem_cons hlt, (List.getElem?_eq_some_iff.1 hx).2]
 rw [h, hd, h1]
 simp [scanV, Rd.map]
theorem scan_tab {body : List UInt8} {pos : Nat} {esc : Bool} (hx : body[pos]? = some 9) (h : scanV false body = (scanV esc (body.drop pos)).map (body.take pos ++ ·)) : scanV false body = .bad := by
 have hlt := (List.getElem?_eq_some_iff.1 hx).1
 have hd : body.drop pos = 9 :: body.drop (pos + 1) := by
  rw [List.drop_eq_getElem_cons hlt, (List.getElem?_eq_some_iff.1 hx).2]
 rw [h, hd, scanV, if_neg (by simp), if_pos rfl]
 rfl
theorem scan_end {body : List UInt8} {esc : Bool} {pos : Nat} (hp : body.length ≤ pos) (h : scanV false body = (scanV esc (body.drop pos)).map (body.take pos ++ ·)) : scanV false body = .cut := by
 rw [h, List.drop_of_length_le hp, scanV]
 rfl
theorem trim_led (q : List UInt8) : q.drop (ledL 32 q) = trimL q := by
 unfold ledL trimL
 rw [inC_sep]
 induction q with
 | nil => rfl
 | cons b q ih =>
  rw [List.takeWhile_cons, List.dropWhile_cons]
  split <;> simp_all
theorem led_zero {q : List UInt8} : ledL 32 q = 0 ↔ trimL q = q := by
 rw [← trim_led]
 constructor
 ·intro h
  rw [h, List.drop_zero]
 ·intro h
  have := congrArg List.length h
  rw [List.length_drop] at this
  have h2 := takeWhile_le (inC 32) q
  unfold ledL at *
  cases q with
  | nil => rfl
  | cons b q =>
   rw [List.length_cons] at this h2
   omega
theorem begL_body {s body : List UInt8} {t : Tok} (h : begL s = .ok t body) : ∃ p, s = p ++ body ∧ p ≠ [] := by
 obtain ⟨e1, _, _⟩ := spanL_eq upCh s
 have hb : ∀ {k n x : List UInt8} {t' : Tok}, begO k n x = .ok t' body → ∃ p, x = p ++ body := fun {k n x t'} h => by
  obtain ⟨g1, _, _⟩ := spanL_eq opCh x
  have h2 := begO_at (k := k) (n := n) (x := x) (oo := (spanL opCh x).1) (r3 := (spanL opCh x).2) rfl
  rw [h] at h2
  split at h2
  ·unfold opM at h2
   split at h2
   ·rename_i r hr
    cases h2
    exact ⟨(spanL opCh x).1 ++ [34], by rw [List.append_assoc, List.cons_append, List.nil_append, ← hr, g1]⟩
   ·cases h2
  ·cases h2
 have h1 := begL_at (s := s) (kk := (spanL upCh s).1) (r1 := (spanL upCh s).2) rfl
 rw [h] at h1
 split at h1
 ·cases h1
 ·rename_i hk
  have fin : ∀ y, (spanL upCh s).2 = y ++ body → ∃ p, s = p ++ body ∧ p ≠ [] := fun y hy => ⟨(spanL upCh s).1 ++ y, by rw [List.append_assoc, ← hy, e1], fun e => hk (List.append_eq_nil_iff.1 e).1⟩
  unfold begM at h1
  split at h1
  ·rename_i s1 hs1
   obtain ⟨g2, _, _⟩ := spanL_eq nmCh s1
   split at h1
   ·cases h1
   ·rename_i c s2 hs2
    split at h1
    ·cases h1
    ·obtain ⟨p, hp⟩ := hb h1.symm
     refine fin (123 :: ((spanL nmCh s1).1 ++ c :: p)) ?_
     rw [hs1, List.cons_append, List.append_assoc, List.cons_append, ← hp, ← hs2, g2]
  ·obtain ⟨p, hp⟩ := hb h1.symm
   exact fin p hp
theorem lead32 (l : List UInt8) (w : World) : Calls Tryz.prog 72 #[.string (bs l), .int .i64 32] w fun r w' => r = .returned (.int .i64 (ledL 32 l : Int)) ∧ Kp [] w w' := by
 have h := leading_any (bs l) 32 w (by decide)
 rw [bs_data] at h
 exact h
theorem u8_eq (a b : UInt8) : ((a.toNat : Int) == (b.toNat : Int)) = (a == b) := by
 rw [Bool.eq_iff_iff]; simp only [beq_iff_eq, ← UInt8.toNat_inj]; omega
theorem lnCh_lt {x : UInt8} (h : lnCh x = true) : x.toNat < 128 := by
 have := forall_u8 (p := fun x => !lnCh x || decide (x.toNat < 128)) (by decide +kernel) x
 simp [h] at this
 exact this
theorem lnCh_pr {x : UInt8} (h : lnCh x = true) (h9 : x ≠ 9) : prCh x = true := by
 unfold lnCh at h
 simp only [Bool.or_eq_true, beq_iff_eq] at h
 exact h.resolve_right h9
theorem bits16 (x : UInt8) : (bits BinOp.and IntKind.i64 (clsN x.toNat : Int) 16 == 0) = !prCh x := by
 have h := bits_inC (b := x) (c := 16) (by decide)
 rw [inC_val] at h
 exact h
theorem class9 (w : World) : Calls Tryz.prog 75 #[.int .i32 9] w fun r w' => r = .returned (.int .i64 33) ∧ w = w' := classOf_any 9 w
theorem class34 (w : World) : Calls Tryz.prog 75 #[.int .i32 34] w fun r w' => r = .returned (.int .i64 17) ∧ w = w' := classOf_any 34 w
theorem bits9 : (bits BinOp.and IntKind.i64 33 16 == 0) = true := by decide +kernel
theorem bits34 : (bits BinOp.and IntKind.i64 17 16 == 0) = false := by decide +kernel
/-- A token behind an own row of tokens: the worlds up to the append. -/
theorem tok_push {w W W7 : World} {tb Nb : Nat} {x : Tok} {v : Value} {xs : List Tok} (hk : Kp [] w W) (ho : tokT.Own W w.heap.size v xs) (ht : w.heap.size ≤ tb) (hv : ∀ b, v.ownBlock = some b → b ≠ tb) (hN : W.heap.size = Nb)
  (hW : (W.setCell ⟨tb, 3, none⟩ (.string (bs x.val))).alloc (.cells (tokC x) 81) = W7) : Kp [] w W7 ∧ tokT.Own W7 w.heap.size v xs ∧ W7.rangeAt Nb 0 (tokT.cf x) := by
 have hs : (W.setCell ⟨tb, 3, none⟩ (.string (bs x.val))).heap.size = Nb := by rw [← hN]; simp [World.setCell]
 have hk1 : Kp [] (W.setCell ⟨tb, 3, none⟩ (.string (bs x.val))) W7 := by rw [← hW]; exact (Kp.refl [] _).alloc _
 refine ⟨(hk.setCell (.inr ht) _).trans hk1, (ho.set (p := ⟨tb, 3, none⟩) hv _).kp0 hk1, ?_⟩
 have h := heap_alloc_last (W.setCell ⟨tb, 3, none⟩ (.string (bs x.val))) (.cells (tokC x) 81)
 rw [hW, hs] at h
 exact TAt.range h
theorem trimL_le (s : List UInt8) : (trimL s).length ≤ s.length := (List.dropWhile_sublist _).length_le
theorem trimL_all {s : List UInt8} (h : s.all lnCh = true) : (trimL s).all lnCh = true := List.all_eq_true.2 fun b hb => List.all_eq_true.1 h b ((List.dropWhile_sublist _).mem hb)
theorem kp_grown {w W w' : World} {v : Value} (h : Kp [] w W) (g : W.grownBy w' v.ownBlock) (hv : ∀ b, v.ownBlock = some b → w.heap.size ≤ b) : Kp [] w w' := by
 cases hb : v.ownBlock with
 | none =>
  rw [hb] at g
  exact h.trans (Kp.of_grown_none g)
 | some b =>
  rw [hb] at g
  exact h.up (Kp.of_grown g) (by intro x hx; simp at hx; subst hx; exact .inr (hv x hb))
set_option maxHeartbeats 8000000 in
set_option maxRecDepth 100000 in
theorem tokens_any (s : List UInt8) (w : World) (hm : Max w) (hl : s.length ≤ 1000000000) : Calls Tryz.prog 46 #[.string (bs s)] w fun r w' => ∃ v, r = .returned (.tuple #[v, .int .i64 ((tokensE s).2 : Int)]) ∧ tokT.Own w' w.heap.size v (tokensE s).1 ∧ Kp [] w w' := by
 by_cases h1 : 1024 < s.length
 ·have hE : tokensE s = ([], 81) := if_pos h1
  have hz : (1024 : Int) < ((bs s).size : Int) := by rw [bs_size]; omega
  rw [hE]
  clear hE h1
  go_enter Tryz.func46, Tryz.ntmps46
  go_wp2
  go_step3
  go_wp2
  try rw [Exit.noGoto_ret]
  go_ret2
  exact ⟨_, rfl, RT.Own.nil _ _ _, Kp.refl _ _⟩
 ·have hz : ¬ (1024 : Int) < ((bs s).size : Int) := by rw [bs_size]; omega
  have H1 := Lib.hid fun W => cons1 s W
  cases hall : s.all lnCh with
  | false =>
   have hE : tokensE s = ([], 80) := by unfold tokensE; rw [if_neg h1, if_pos hall]
   rw [hE]
   rw [hall] at H1
   clear hE h1 hall
   go_enter Tryz.func46, Tryz.ntmps46
   go_wp2
   go_step3
   go_wp2_with (go_at_call 71; refine Calls.mono (by with_reducible exact H1.out _) ?_; rintro r w1 ⟨rfl, hk⟩)
   try rw [Exit.noGoto_ret]
   go_ret2
   exact ⟨_, rfl, RT.Own.nil _ _ _, hk⟩
  | true =>
   have hE : tokensE s = match tokensL s with | .bad => ([], 82) | .cut => ([], 83) | .ok l _ => (l, 0) := by unfold tokensE; rw [if_neg h1, if_neg (by rw [hall]; simp)]
   rw [hall] at H1
   have HE := Lib.hid hE
   have H32 := Lib.hid fun W => lead32 s W
   have hle := takeWhile_le (inC 32) s
   have hn : (ledL 32 s : Int) ≤ ((bs s).size : Int) := by rw [bs_size]; unfold ledL; omega
   have hn2 : ledL 32 s ≤ (bs s).size := by rw [bs_size]; exact hle
   have hex : (bs s).extract (ledL 32 s) (bs s).size = bs (trimL s) := by rw [bs_drop, trim_led]
   have HX := Lib.hid hex
   have HALL := Lib.hid hall
   have HLE := Lib.hid (show s.length ≤ 1024 by omega)
   clear hE hle hex hall h1
   generalize ledL 32 s = nn at *
   go_enter Tryz.func46, Tryz.ntmps46
   go_wp2
   go_step3
   go_wp2_with (first
    | (go_at_call 71; refine Calls.mono (by with_reducible exact H1.out _) ?_; rintro r w1 ⟨rfl, hk⟩; have HK1 := Lib.hid hk; clear hk)
    | (go_at_call 72; refine Calls.mono (by with_reducible exact H32.out _) ?_; rintro r w2 ⟨rfl, hk⟩; have HK2 := Lib.hid (HK1.out.trans hk); clear hk))
   rw [HX.out]
   go_step3
   go_wp2
   go_loopg [4, 5] s.length (fun g s4 s5 wx => ∃ v xs rest f, v = s4 ∧ s5 = .string (bs rest) ∧ tokT.Own wx w.heap.size v xs ∧ Kp [] w wx ∧ rest.all lnCh = true ∧ rest.length ≤ g ∧ xs.length + rest.length ≤ 1024 ∧ rest.length < f ∧ tokensL s = preT xs (tokensF f rest))
   case atStart =>
    have h1 := trimL_le s
    have h2 := HLE.out
    refine ⟨_, [], trimL s, s.length + 1, rfl, rfl, RT.Own.nil _ _ _, HK2.out, trimL_all HALL.out, h1, by simp; omega, by omega, ?_⟩
    rw [preT_nil]
    rfl
   case round =>
    obtain ⟨v, xs, rest, f, rfl, rfl, hown, hkx, hra, hrg, hxr, hrf, htk⟩ := hrel
    have HO := Lib.hid hown
    have HKX := Lib.hid hkx
    by_cases hre : rest = []
    ·subst hre
     have he0 : (bs []).toList.isEmpty = true := bs_isEmpty []
     have hE := HE.out
     rw [htk, show tokensF f [] = .ok [] [] by cases f with | zero => simp at hrf | succ f => rfl] at hE
     simp only [preT, List.append_nil] at hE
     have HE2 := Lib.hid hE
     clear hE hown hkx hra hrg hxr hrf htk
     go_wp2
     try rw [Exit.noGoto_ret]
     go_ret2
     rw [HE2.out]
     exact ⟨_, rfl, HO.out, HKX.out⟩
    ·have hne : (bs rest).toList.isEmpty = false := by
      rw [bs_isEmpty]
      cases rest with
      | nil => exact absurd rfl hre
      | cons _ _ => rfl
     obtain ⟨f', rfl⟩ : ∃ f', f = f' + 1 := ⟨f - 1, by omega⟩
     have htb := tokensF_begL f' hre
     rw [htb] at htk
     have HB := begin_any rest wr
     cases hb : begL rest with
     | bad =>
      rw [hb] at htk HB
      simp only [preT] at htk
      have HB2 := Lib.hid HB
      have hE := HE.out
      rw [htk] at hE
      simp only at hE
      have HE2 := Lib.hid hE
      unfold begV tokC at HB2
      clear hE HB htk htb hb hown hkx hra hrg hxr hrf hre
      go_wp2_with (go_at_call 73; refine Calls.mono (by with_reducible exact HB2.out) ?_; rintro r w3 ⟨rfl, hk⟩; have HK3 := Lib.hid (HKX.out.trans hk); clear hk)
      try rw [Exit.noGoto_ret]
      go_ret2
      rw [HE2.out]
      exact ⟨_, rfl, RT.Own.nil _ _ _, HK3.out.alloc _⟩
     | cut =>
      rw [hb] at htk HB
      simp only [preT] at htk
      have HB2 := Lib.hid HB
      have hE := HE.out
      rw [htk] at hE
      simp only at hE
      have HE2 := Lib.hid hE
      unfold begV tokC at HB2
      clear hE HB htk htb hb hown hkx hra hrg hxr hrf hre
      go_wp2_with (go_at_call 73; refine Calls.mono (by with_reducible exact HB2.out) ?_; rintro r w3 ⟨rfl, hk⟩; have HK3 := Lib.hid (HKX.out.trans hk); clear hk)
      try rw [Exit.noGoto_ret]
      go_ret2
      rw [HE2.out]
      exact ⟨_, rfl, RT.Own.nil _ _ _, HK3.out.alloc _⟩
     | ok t body =>
      rw [hb] at htk HB
      simp only at htk
      obtain ⟨pp, hpp, hpn⟩ := begL_body hb
      have hba : body.all lnCh = true := all_suffix hra hpp.symm
      have hbl : body.length < rest.length := by
       rw [hpp, List.length_append]
       have := List.length_pos_iff.2 hpn
       omega
      have HB2 := Lib.hid HB
      unfold begV tokC at HB2
      have HTK := Lib.hid htk
      have HBA := Lib.hid hba
      have HBL := Lib.hid (show body.length < rest.length ∧ rest.length ≤ gk ∧ xs.length + rest.length ≤ 1024 ∧ rest.length < f' + 1 from ⟨hbl, hrg, hxr, hrf⟩)
      obtain ⟨g, rfl⟩ : ∃ g, gk = g + 1 := ⟨gk - 1, by omega⟩
      clear HB htk htb hb hown hkx hra hrg hxr hrf hre hba hbl hpp hpn
      go_wp2_with (go_at_call 73; refine Calls.mono (by with_reducible exact HB2.out) ?_; rintro r w3 ⟨rfl, hk⟩; have HK3 := Lib.hid (HKX.out.trans hk); have HO3 := Lib.hid (HO.out.kp0 hk); clear hk; obtain ⟨tb, htb⟩ : ∃ tb, w3.heap.size = tb := ⟨_, rfl⟩; obtain ⟨wb, hwb⟩ : ∃ wb, w3.alloc (.cells #[.string (bs t.key), .string (bs t.name), .string (bs t.op), .string (bs t.val)] 81) = wb := ⟨_, rfl⟩)
      have hTb : TAt wb tb t := by
       rw [← hwb, ← htb]
       exact heap_alloc_last w3 _
      have hkb : Kp [] w3 wb := by rw [← hwb]; exact (Kp.refl [] w3).alloc _
      have htw : w.heap.size ≤ tb := by rw [← htb]; exact HK3.out.size
      have hOb : ∀ b, v.ownBlock = some b → b ≠ tb := fun b hb => by
       have := (HO3.out.ge b hb).2
       omega
      have HTb := Lib.hid hTb
      have HKb := Lib.hid (HK3.out.trans hkb)
      have HOb := Lib.hid (HO3.out.kp0 hkb)
      have HOt := Lib.hid hOb
      clear hTb hkb hOb hwb htb
      have hbs : (bs body).size = body.length := bs_size _
      go_loopg [4, 9] body.length (fun g2 s4 s9 wx => ∃ pos esc, pos + g2 = body.length ∧ v = s4 ∧ s9 = .bool esc ∧ wx = wb.iter (bs body) pos ∧ Hid (scanV false body = (scanV esc (body.drop pos)).map (body.take pos ++ ·)))
      case atStart =>
       refine ⟨0, false, by omega, rfl, rfl, rfl, Lib.hid ?_⟩
       rw [List.drop_zero]
       cases scanV false body <;> simp [Rd.map]
      case round =>
       obtain ⟨pos, esc, hpg, rfl, rfl, rfl, HS⟩ := hrel
       by_cases hp : pos < body.length
       ·have hp2 : pos < (bs body).size := by rw [hbs]; exact hp
        obtain ⟨x, hx⟩ : ∃ x, body[pos]? = some x := ⟨_, List.getElem?_eq_getElem hp⟩
        have hxb : (bs body)[pos]'hp2 = x := (List.getElem?_eq_some_iff.1 hx).2
        have hxl : lnCh x = true := List.all_eq_true.1 HBA.out x (List.mem_of_getElem? hx)
        have hnx : ∀ ty, (Instr.next (.pointer (some ⟨wb.heap.size, 0, none⟩)) true ty).run Tryz.prog (wb.iter (bs body) pos) = _ := fun ty => run_next_ascii wb (bs body) pos ty hp2 (by rw [hxb]; exact lnCh_lt hxl)
        rw [hxb] at hnx
        have h16 := bits16 x
        have HC := Lib.hid fun W => classOf_any x.toNat W
        have HXX := Lib.hid hx
        have HXL := Lib.hid hxl
        clear hxb hx hxl
        by_cases hq : x = 34 ∧ esc = false
        ·obtain ⟨rfl, rfl⟩ := hq
         rw [show (((34 : UInt8).toNat : Nat) : Int) = 34 from rfl] at hnx
         have hsq := scan_quote HXX.out HS.out rfl
         obtain ⟨q, hq⟩ : ∃ q, body.drop (pos + 1) = q := ⟨_, rfl⟩
         obtain ⟨raw, hraw⟩ : ∃ raw, body.take pos = raw := ⟨_, rfl⟩
         rw [hq, hraw] at hsq
         have htk := HTK.out
         rw [hsq] at htk
         simp only at htk
         have hqa : q.all lnCh = true := by rw [← hq]; exact List.all_eq_true.2 fun b hb => List.all_eq_true.1 HBA.out b (List.mem_of_mem_drop hb)
         have hql : q.length + pos + 1 = body.length := by rw [← hq, List.length_drop]; omega
         have hrl : raw.length ≤ 1024 := by rw [← hraw, List.length_take]; have := HBL.out; omega
         have hx1 : (bs body).extract (pos + 1) (bs body).size = bs q := by rw [bs_drop, hq]
         obtain ⟨k, hk⟩ : ∃ k, ledL 32 q = k := ⟨_, rfl⟩
         have hkl : k ≤ q.length := by rw [← hk]; exact takeWhile_le _ _
         have hx2 : (bs body).extract (pos + 1 + k) (bs body).size = bs (trimL q) := by rw [bs_drop, ← List.drop_drop, hq, ← hk, trim_led]
         have hx3 : (bs body).extract 0 pos = bs raw := by rw [bs_take, hraw]
         have H32b := lead32 q
         rw [← hx1, hk] at H32b
         have hmx := fun W (h : Kp [] w W) => unesc_any raw W (by omega) (hm.kp h (by simp))
         rw [← hx3] at hmx
         have H34b := Lib.hid hmx
         have H32b := Lib.hid H32b
         have hw1 : IntKind.i64.wrap ((pos : Int) + 1) = ((pos + 1 : Nat) : Int) := by rw [IntKind.wrap_i64]; have := HBL.out; omega
         have hw2 : IntKind.i64.wrap ((pos : Int) + 1 + (k : Int)) = ((pos + 1 + k : Nat) : Int) := by rw [IntKind.wrap_i64]; have := HBL.out; omega
         have hs1 : ((pos + 1 : Nat) : Int) ≤ ((bs body).size : Int) := by rw [hbs]; omega
         have hs2 : ((pos + 1 + k : Nat) : Int) ≤ ((bs body).size : Int) := by rw [hbs]; omega
         have hs3 : (pos : Int) ≤ ((bs body).size : Int) := by rw [hbs]; omega
         have ht1 : pos + 1 ≤ (bs body).size := by rw [hbs]; omega
         have ht2 : pos + 1 + k ≤ (bs body).size := by rw [hbs]; omega
         have ht3 : pos ≤ (bs body).size := by rw [hbs]; omega
         have HX2 := Lib.hid hx2
         have HX3 := Lib.hid hx3
         have HTQ := Lib.hid htk
         have HQ := Lib.hid (show q.all lnCh = true ∧ q.length + pos + 1 = body.length ∧ k ≤ q.length ∧ ledL 32 q = k from ⟨hqa, hql, hkl, hk⟩)
         obtain ⟨wi, hwi⟩ : ∃ wi, wb.iter (bs body) (pos + 1) = wi := ⟨_, rfl⟩
         have hki : Kp [] wb wi := by rw [← hwi]; exact (Kp.refl [] wb).alloc _
         have HKi := Lib.hid (HKb.out.trans hki)
         have HTi := Lib.hid (HTb.out.kp hki (by simp))
         have HOi := Lib.hid (HOb.out.kp0 hki)
         clear hsq htk hqa hql hrl hx1 hx2 hx3 hk hkl hmx hki hq hraw
         have HXS := Lib.hid (show xs.length ≤ 1000000 by have := HBL.out; omega)
         clear hbs
         by_cases hk0 : k = 0
         ·subst hk0
          by_cases hqe : q = []
          ·have hie : (bs (trimL q)).toList.isEmpty = true := by rw [bs_isEmpty, hqe]; rfl
           have HTQ2 := Lib.hid (show tokensL s = preT xs (preT [{ t with val := unescL raw }] (tokensF f' (trimL q))) by rw [HTQ.out, if_neg (fun h => h.1 hqe)])
           have hie2 : ((bs body).extract (pos + 1) (bs body).size).toList.isEmpty = true := by
            have := HX2.out
            rw [Nat.add_zero] at this
            rw [this]
            exact hie
           clear hqe
           go_wp2_with (first
            | (go_at_call 72; refine Calls.mono (by with_reducible exact H32b.out _) ?_; rintro r w5 ⟨rfl, hk⟩; have HK5 := Lib.hid (HKi.out.trans hk); have HT5 := Lib.hid (HTi.out.kp hk (by simp)); have HO5 := Lib.hid (HOi.out.kp0 hk); clear hk)
            | (go_at_call 74; refine Calls.mono (by with_reducible exact H34b.out _ HK5.out) ?_; rintro r w6 ⟨rfl, hk⟩; have HK6 := Lib.hid (HK5.out.trans hk); have HT6 := Lib.hid (HT5.out.kp hk (by simp)); have HO6 := Lib.hid (HO5.out.kp0 hk); clear hk; obtain ⟨d0, d1, d2, d3⟩ := HT6.out.cells; have df := fun o => HT6.out.frz (o := o); obtain ⟨Nb, hNb⟩ : ∃ Nb, w6.heap.size = Nb := ⟨_, rfl⟩; obtain ⟨w7, hw7⟩ : ∃ w7, (w6.setCell ⟨tb, 3, none⟩ (.string (bs (unescL raw)))).alloc (.cells #[.string (bs t.key), .string (bs t.name), .string (bs t.op), .string (bs (unescL raw))] 81) = w7 := ⟨_, rfl⟩; have H7 := Lib.hid (tok_push (x := { t with val := unescL raw }) HK6.out HO6.out htw HOt.out hNb hw7))
            | (at_builtin; refine wpList_append_r (r := tokT) rfl (.tmp 69) (.tmp 71) rfl w.heap.size v xs rfl H7.out.2.1 Nb 1 { t with val := unescL raw } rfl H7.out.2.2 HXS.out H7.out.1.size ?_; intro v8 w8 hown8 hgr8; have HO8 := Lib.hid hown8; have HK8 := Lib.hid (kp_grown H7.out.1 hgr8 fun b hb => (H7.out.2.1.ge b hb).1); clear hown8 hgr8))
           rw [HX2.out]
           go_roundg g
           case measure => omega
           case rel =>
            have hq1 := HQ.out
            have hb1 := HBL.out
            have hle := trimL_le q
            refine ⟨v8, xs ++ [{ t with val := unescL raw }], trimL q, f', rfl, rfl, HO8.out, HK8.out, trimL_all hq1.1, by omega, by rw [List.length_append, List.length_singleton]; omega, by omega, ?_⟩
            rw [HTQ2.out, preT_app]
          ·have hqt : trimL q = q := led_zero.1 HQ.out.2.2.2
           have hE := HE.out
           rw [HTQ.out, if_pos ⟨hqe, hqt⟩] at hE
           simp only [preT] at hE
           have HE2 := Lib.hid hE
           have hie2 : ((bs body).extract (pos + 1) (bs body).size).toList.isEmpty = false := by
            have := HX2.out
            rw [Nat.add_zero] at this
            rw [this, bs_isEmpty, hqt]
            cases q with
            | nil => exact absurd rfl hqe
            | cons _ _ => rfl
           clear hqe hqt hE
           go_wp2_with (first
            | (go_at_call 72; refine Calls.mono (by with_reducible exact H32b.out _) ?_; rintro r w5 ⟨rfl, hk⟩; have HK5 := Lib.hid (HKi.out.trans hk); have HT5 := Lib.hid (HTi.out.kp hk (by simp)); have HO5 := Lib.hid (HOi.out.kp0 hk); clear hk)
            | (go_at_call 74; refine Calls.mono (by with_reducible exact H34b.out _ HK5.out) ?_; rintro r w6 ⟨rfl, hk⟩; have HK6 := Lib.hid (HK5.out.trans hk); have HT6 := Lib.hid (HT5.out.kp hk (by simp)); have HO6 := Lib.hid (HO5.out.kp0 hk); clear hk; obtain ⟨d0, d1, d2, d3⟩ := HT6.out.cells; have df := fun o => HT6.out.frz (o := o); obtain ⟨Nb, hNb⟩ : ∃ Nb, w6.heap.size = Nb := ⟨_, rfl⟩; obtain ⟨w7, hw7⟩ : ∃ w7, (w6.setCell ⟨tb, 3, none⟩ (.string (bs (unescL raw)))).alloc (.cells #[.string (bs t.key), .string (bs t.name), .string (bs t.op), .string (bs (unescL raw))] 81) = w7 := ⟨_, rfl⟩; have H7 := Lib.hid (tok_push (x := { t with val := unescL raw }) HK6.out HO6.out htw HOt.out hNb hw7))
            | (at_builtin; refine wpList_append_r (r := tokT) rfl (.tmp 69) (.tmp 71) rfl w.heap.size v xs rfl H7.out.2.1 Nb 1 { t with val := unescL raw } rfl H7.out.2.2 HXS.out H7.out.1.size ?_; intro v8 w8 hown8 hgr8; have HO8 := Lib.hid hown8; have HK8 := Lib.hid (kp_grown H7.out.1 hgr8 fun b hb => (H7.out.2.1.ge b hb).1); clear hown8 hgr8))
           try rw [Exit.noGoto_ret]
           go_ret2
           rw [HE2.out]
           exact ⟨_, rfl, RT.Own.nil _ _ _, HK5.out⟩
         ·have hk0' : ((k : Int) == 0) = false := by simp; exact hk0
          have HTQ2 := Lib.hid (show tokensL s = preT xs (preT [{ t with val := unescL raw }] (tokensF f' (trimL q))) by rw [HTQ.out, if_neg (fun h => hk0 (by rw [← HQ.out.2.2.2]; exact led_zero.2 h.2))])
          clear hk0
          go_wp2_with (first
           | (go_at_call 72; refine Calls.mono (by with_reducible exact H32b.out _) ?_; rintro r w5 ⟨rfl, hk⟩; have HK5 := Lib.hid (HKi.out.trans hk); have HT5 := Lib.hid (HTi.out.kp hk (by simp)); have HO5 := Lib.hid (HOi.out.kp0 hk); clear hk)
           | (go_at_call 74; refine Calls.mono (by with_reducible exact H34b.out _ HK5.out) ?_; rintro r w6 ⟨rfl, hk⟩; have HK6 := Lib.hid (HK5.out.trans hk); have HT6 := Lib.hid (HT5.out.kp hk (by simp)); have HO6 := Lib.hid (HO5.out.kp0 hk); clear hk; obtain ⟨d0, d1, d2, d3⟩ := HT6.out.cells; have df := fun o => HT6.out.frz (o := o); obtain ⟨Nb, hNb⟩ : ∃ Nb, w6.heap.size = Nb := ⟨_, rfl⟩; obtain ⟨w7, hw7⟩ : ∃ w7, (w6.setCell ⟨tb, 3, none⟩ (.string (bs (unescL raw)))).alloc (.cells #[.string (bs t.key), .string (bs t.name), .string (bs t.op), .string (bs (unescL raw))] 81) = w7 := ⟨_, rfl⟩; have H7 := Lib.hid (tok_push (x := { t with val := unescL raw }) HK6.out HO6.out htw HOt.out hNb hw7))
           | (at_builtin; refine wpList_append_r (r := tokT) rfl (.tmp 69) (.tmp 71) rfl w.heap.size v xs rfl H7.out.2.1 Nb 1 { t with val := unescL raw } rfl H7.out.2.2 HXS.out H7.out.1.size ?_; intro v8 w8 hown8 hgr8; have HO8 := Lib.hid hown8; have HK8 := Lib.hid (kp_grown H7.out.1 hgr8 fun b hb => (H7.out.2.1.ge b hb).1); clear hown8 hgr8))
          rw [HX2.out]
          go_roundg g
          case measure => omega
          case rel =>
           have hq1 := HQ.out
           have hb1 := HBL.out
           have hle := trimL_le q
           refine ⟨v8, xs ++ [{ t with val := unescL raw }], trimL q, f', rfl, rfl, HO8.out, HK8.out, trimL_all hq1.1, by omega, by rw [List.length_append, List.length_singleton]; omega, by omega, ?_⟩
           rw [HTQ2.out, preT_app]
        ·by_cases h9 : x = 9
         ·subst h9
          have h16 := bits9
          rw [show (((9 : UInt8).toNat : Nat) : Int) = 9 from rfl] at hnx
          have hE := HE.out
          rw [HTK.out, scan_tab HXX.out HS.out] at hE
          simp only [preT] at hE
          have HE2 := Lib.hid hE
          clear hq hE
          go_wp2_with (go_at_call 75; refine Calls.mono (by with_reducible exact class9 _) ?_; rintro r w4 ⟨rfl, rfl⟩)
          try rw [Exit.noGoto_ret]
          go_ret2
          rw [HE2.out]
          exact ⟨_, rfl, RT.Own.nil _ _ _, HKb.out.alloc _⟩
         ·rw [lnCh_pr HXL.out h9, Bool.not_true] at h16
          obtain ⟨g3, rfl⟩ : ∃ g3, gk = g3 + 1 := ⟨gk - 1, by omega⟩
          have HN := Lib.hid (scan_next HXX.out HS.out hq h9)
          have h92 := u8_eq x 92
          rw [show ((92 : UInt8).toNat : Int) = 92 from rfl] at h92
          have H92 := Lib.hid h92
          clear h92 h9
          cases esc with
          | true =>
           clear hq
           by_cases hx34 : x = 34
           ·subst hx34
            have h16 := bits34
            rw [show (((34 : UInt8).toNat : Nat) : Int) = 34 from rfl] at hnx
            go_wp2_with (go_at_call 75; refine Calls.mono (by with_reducible exact class34 _) ?_; rintro r w4 ⟨rfl, rfl⟩)
            go_roundg g3
            case measure => omega
            case rel => exact ⟨pos + 1, false, by omega, rfl, rfl, rfl, HN⟩
           ·have h34 : ((x.toNat : Int) == 34) = false := by
             have e := u8_eq x 34
             rw [show ((34 : UInt8).toNat : Int) = 34 from rfl] at e
             rw [e]
             simp only [beq_eq_false_iff_ne]
             exact hx34
            clear hx34
            go_wp2_with (go_at_call 75; refine Calls.mono (by with_reducible exact HC.out _) ?_; rintro r w4 ⟨rfl, rfl⟩)
            go_roundg g3
            case measure => omega
            case rel => exact ⟨pos + 1, x == 92, by omega, rfl, by rw [H92.out], rfl, HN⟩
          | false =>
           have h34 : ((x.toNat : Int) == 34) = false := by
            have e := u8_eq x 34
            rw [show ((34 : UInt8).toNat : Int) = 34 from rfl] at e
            rw [e]
            simp only [beq_eq_false_iff_ne]
            exact fun h => hq ⟨h, rfl⟩
           clear hq
           go_wp2_with (go_at_call 75; refine Calls.mono (by with_reducible exact HC.out _) ?_; rintro r w4 ⟨rfl, rfl⟩)
           go_roundg g3
           case measure => omega
           case rel => exact ⟨pos + 1, x == 92, by omega, rfl, by rw [H92.out], rfl, HN⟩
       ·have hp2 : ¬ pos < (bs body).size := by rw [hbs]; exact hp
        have hnx : ∀ ty, (Instr.next (.pointer (some ⟨wb.heap.size, 0, none⟩)) true ty).run Tryz.prog (wb.iter (bs body) pos) = _ := fun ty => run_next_end wb (bs body) pos ty hp2
        have hE := HE.out
        rw [HTK.out, scan_end (by omega) HS.out] at hE
        simp only [preT] at hE
        have HE2 := Lib.hid hE
        clear hE
        go_wp2
        try rw [Exit.noGoto_ret]
        go_ret2
        rw [HE2.out]
        exact ⟨_, rfl, RT.Own.nil _ _ _, HKb.out.alloc _⟩
end Go.Proofs.YtkkibibecgcbmaaGreatDoor.Lx
namespace Go.Proofs.YtkkibibecgcbmaaGreatDoor.Lx
open Go.RowKit
theorem sizeB : (Tryz.prog.info? 118).map (·.size) = some 2 := by kernel_rfl
theorem infoU8 : (Tryz.prog.info? 5).map (fun i => (i.zero, i.size, i.bytes)) = some (some (.int .u8 0), 1, 1) := by kernel_rfl
set_option maxHeartbeats 1000000 in
set_option maxRecDepth 100000 in
theorem copyCheck_fresh (b : Nat) (w : World) (h0 : w.cell? ⟨b, 0, none⟩ = some (.pointer none)) (hsh : w.shape? b = some (118, 2)) (hf : w.frozen? ⟨b, 0, none⟩ = false) :
  Calls Tryz.prog 115 #[.pointer (some ⟨b, 0, none⟩)] w fun e w' => e = .returned (.tuple #[]) ∧ w' = w.setCell ⟨b, 0, none⟩ (.pointer (some ⟨b, 0, none⟩)) := by
 obtain ⟨j, hj, hjs⟩ := Option.map_eq_some_iff.1 sizeB
 have hlies : liesAt Tryz.prog Tryz.prog.depth 118 (2 / Tryz.prog.cellsOf 118) 0 118 1 = true := by kernel_rfl
 go_enter Tryz.func115, Tryz.ntmps115
 go_wp2
 rw [Lib.run_to_unsafe w ⟨b, 0, none⟩ Tryz.underlying116 Tryz.underlying182 hj (by rw [hjs]; decide) hsh (Nat.zero_lt_succ 1)]
 simp only [Result.andThen]
 rw [Oper.upon_value]
 go_wp2
 rw [run_callFunc_extern Tryz.func149 (by kernel_rfl) (by kernel_rfl) (by kernel_rfl) (e := Extern.AbiNoEscape.same) (by kernel_rfl)]
 rw [Lib.run_noEscape]
 simp only [Result.andThen]
 rw [Oper.upon_value]
 go_wp2
 rw [Lib.run_from_unsafe w ⟨b, 0, none⟩ Tryz.underlying182 Tryz.underlying116 hj hsh hlies]
 simp only [Result.andThen]
 rw [Oper.upon_value]
 go_wp2
 go_end0
 exact ⟨rfl, rfl⟩
set_option maxHeartbeats 1000000 in
set_option maxRecDepth 100000 in
theorem copyCheck_used (b : Nat) (w : World) (h0 : w.cell? ⟨b, 0, none⟩ = some (.pointer (some ⟨b, 0, none⟩))) :
  Calls Tryz.prog 115 #[.pointer (some ⟨b, 0, none⟩)] w fun e w' => e = .returned (.tuple #[]) ∧ w' = w := by
 obtain ⟨j, hj, _⟩ := Option.map_eq_some_iff.1 sizeB
 go_enter Tryz.func115, Tryz.ntmps115
 go_wp2
 rw [Lib.run_neq_ptr_same w _ Tryz.underlying116 hj]
 go_wp2
 go_end0
 exact ⟨rfl, rfl⟩
/-- A builder in block b that holds a text. -/
def Bld (B b : Nat) (l : List UInt8) (w : World) : Prop := Lib.IsBuilderF 118 5 B b (Lib.byteCells l) w
/-- What stays when a builder is written: what lies below, and all that is no row of bytes. -/
structure Bk (B b : Nat) (w w' : World) : Prop where
 bel : Below B w w'
 oth : Lib.OthersKept 5 (some b) w w'
theorem copyCheck_any (B b : Nat) (l : List UInt8) (w : World) (h : Bld B b l w) :
  Calls Tryz.prog 115 #[.pointer (some ⟨b, 0, none⟩)] w fun e w' => e = .returned (.tuple #[]) ∧ Lib.BuilderAtF 118 5 B b (.pointer (some ⟨b, 0, none⟩)) (Lib.byteCells l) w' ∧ Bk B b w w' := by
 rcases h with h | h
 ·refine (copyCheck_fresh b w h.cell0 h.shape h.frozen0).mono ?_
  rintro e w' ⟨rfl, rfl⟩
  exact ⟨rfl, h.used _, (Below.refl B w).setCell (p := ⟨b, 0, none⟩) h.1 _, (Lib.OthersKept.refl _ _ w).setCell ⟨b, 0, none⟩ rfl _⟩
 ·refine (copyCheck_used b w h.cell0).mono ?_
  rintro e w' ⟨rfl, rfl⟩
  exact ⟨rfl, h, Below.refl B _, Lib.OthersKept.refl _ _ _⟩
set_option maxHeartbeats 2000000 in
set_option maxRecDepth 100000 in
theorem writeString_any (B b : Nat) (l t : List UInt8) (w : World) (h : Bld B b l w) (hlen : l.length + t.length ≤ 100000000000) (hBw : B ≤ w.heap.size) :
  Calls Tryz.prog 81 #[.pointer (some ⟨b, 0, none⟩), .string (bs t)] w fun e w' => e = .returned (.tuple #[.int .i64 (t.length : Int), .nilIface]) ∧ Bld B b (l ++ t) w' ∧ Bk B b w w' := by
 obtain ⟨i0, hi, hz0, hz1, hz2⟩ := info_parts infoU8
 have HC := Lib.hid (copyCheck_any B b l w h)
 clear h
 go_enter Tryz.func81, Tryz.ntmps81
 go_wp2_with (go_at_call 115; refine Calls.mono (by with_reducible exact HC.out) ?_)
 rintro e w1 ⟨rfl, h1, hb1, hk1⟩
 obtain ⟨hB, v, hbk, hown, hne⟩ := h1
 have c0 : w1.cell? ⟨b, 0, none⟩ = some (.pointer (some ⟨b, 0, none⟩)) := by rw [Lib.cell_of_heap hbk]; rfl
 have c1 : w1.cell? ⟨b, 1, none⟩ = some v := by rw [Lib.cell_of_heap hbk]; rfl
 go_wp2_with (at_builtin; refine Lib.wpList_append_own_stringF _ rfl _ _ 67 9 rfl B 5 i0 Tryz.underlying67 Tryz.underlying9 hi hz0 hz1 hz2 _ _ _ rfl hown (bs t) rfl ?c3 ?c4 ?c5 ?_)
 case c3 => rw [Lib.byteCells_length, bs_size]; unfold maxLen; omega
 case c4 => rw [Lib.byteCells_length, bs_size]; omega
 case c5 => have := hb1.size; omega
 intro v' w2 hown' hgrow _
 have hlt : b < w1.heap.size := block_lt hbk
 have hb2 : w2.heap[b]? = some (.cells #[.pointer (some ⟨b, 0, none⟩), v] 118 (0, 0)) := by
  rw [hgrow.block b hlt (fun e => hne e.symm)]
  exact hbk
 have d0 : w2.cell? ⟨b, 0, none⟩ = some (.pointer (some ⟨b, 0, none⟩)) := by rw [Lib.cell_of_heap hb2]; rfl
 have d1 : w2.cell? ⟨b, 1, none⟩ = some v := by rw [Lib.cell_of_heap hb2]; rfl
 have f1 : w2.frozen? ⟨b, 1, none⟩ = false := Lib.frozen_of_heap hb2 1
 obtain ⟨ao, n', cap, rfl⟩ : ∃ ao n' cap, v' = .slice ao n' cap := by
  rcases hown'.2 with ⟨hv, _⟩ | ⟨g, cap, cur, fz, hv, _⟩
  ·exact ⟨_, _, _, hv⟩
  ·exact ⟨_, _, _, hv⟩
 go_wp2
 go_ret2
 refine ⟨rfl, .inr ?_, ?_, (hk1.grown hgrow (Lib.ownsRowF_kind hown)).setCell ⟨b, 1, none⟩ rfl _⟩
 ·refine Lib.BuilderAtF.put (T := 118) (e := 5) hB hb2 (bs' := Lib.byteCells (l ++ t)) ?_ (by decide)
  rw [Lib.byteCells_append, List.length_append, Lib.byteCells_length t, show t.length = (bs t).size from rfl]
  exact hown'
 ·exact (hb1.grown hgrow (by have := hb1.size; omega) (fun k hk => (hown.lt k hk).1)).setCell (p := ⟨b, 1, none⟩) hB _
theorem Bld.new {w : World} {B b : Nat} (hB : B ≤ b) (h : w.heap[b]? = some (.cells #[.pointer none, .slice none 0 0] 118 (0, 0))) : Bld B b [] w :=
 .inl ⟨hB, _, h, ⟨rfl, .inl ⟨rfl, rfl⟩⟩, by simp [Value.ownBlock]⟩
theorem str_any (B b : Nat) (l : List UInt8) (w : World) (h : Bld B b l w) (hBw : B ≤ w.heap.size) :
  Calls Tryz.prog 84 #[.pointer (some ⟨b, 0, none⟩)] w fun e w' => e = .returned (.string (bs l)) ∧ Bld B b l w' ∧ Bk B b w w' :=
 (Tryz.Builder_String_any_k B b l w h hBw).mono fun _ _ ⟨h1, h2, h3, h4⟩ => ⟨h1, h2, h3, h4⟩
theorem len_any (B b : Nat) (l : List UInt8) (w : World) (h : Bld B b l w) :
  Calls Tryz.prog 83 #[.pointer (some ⟨b, 0, none⟩)] w fun e w' => e = .returned (.int .i64 (l.length : Int)) ∧ w' = w := by
 have h := Tryz.Builder_Len_f B b _ w h
 rw [Lib.byteCells_length] at h
 exact h
end Go.Proofs.YtkkibibecgcbmaaGreatDoor.Lx
namespace Go.Proofs.YtkkibibecgcbmaaGreatDoor.Lx
open Go.RowKit
/-- The line of tokens, and the error's number. -/
def fmtE (l : List Tok) : List UInt8 × Nat := if l.all goodB = false then ([], 82) else if 1024 < (fmtL l).length then ([], 81) else (fmtL l, 0)
theorem fmtL_snoc : ∀ (l : List Tok) (x : Tok), l ≠ [] → fmtL (l ++ [x]) = fmtL l ++ (44 :: 32 :: fmtT x)
 | [], _, h => absurd rfl h
 | [a], x, _ => rfl
 | a :: b :: l, x, _ => by
  have ih := fmtL_snoc (b :: l) x (by simp)
  show fmtT a ++ 44 :: 32 :: fmtL ((b :: l) ++ [x]) = (fmtT a ++ 44 :: 32 :: fmtL (b :: l)) ++ _
  rw [ih]
  simp
theorem fmtL_take_le (l : List Tok) : ∀ i, i < l.length → (fmtL (l.take i)).length ≤ (fmtL (l.take (i + 1))).length := fun i hi => by
 rw [List.take_add_one, List.getElem?_eq_getElem hi]
 simp only [Option.toList]
 by_cases h : l.take i = []
 ·rw [h]; simp [fmtL]
 ·rw [fmtL_snoc _ _ h, List.length_append]; omega
theorem fmtL_take_all (l : List Tok) : ∀ (n i : Nat), i + n = l.length → (fmtL (l.take i)).length ≤ (fmtL l).length
 | 0, i, h => by rw [List.take_of_length_le (by omega)]; exact Nat.le_refl _
 | n + 1, i, h => Nat.le_trans (fmtL_take_le l i (by omega)) (fmtL_take_all l n (i + 1) (by omega))
theorem Bld.kp0 {w w' : World} {B b : Nat} {l : List UInt8} (h : Bld B b l w) (hk : Kp [] w w') : Bld B b l w' := by
 have key : ∀ p, Lib.BuilderAtF 118 5 B b p (Lib.byteCells l) w → Lib.BuilderAtF 118 5 B b p (Lib.byteCells l) w' := fun p ⟨hB, v, hb, hown, hne⟩ => by
  refine ⟨hB, v, (hk.block b (block_lt hb) (by simp)).trans hb, ⟨hown.1, ?_⟩, hne⟩
  rcases hown.2 with hn | ⟨g, cap, cur, fz, hv, hg, hh, rest⟩
  ·exact .inl hn
  ·exact .inr ⟨g, cap, cur, fz, hv, hg, (hk.block g (block_lt hh) (by simp)).trans hh, rest⟩
 exact h.elim (fun x => .inl (key _ x)) (fun x => .inr (key _ x))
theorem Bld.lt {w : World} {B b : Nat} {l : List UInt8} (h : Bld B b l w) : B ≤ b ∧ b < w.heap.size := by
 rcases h with h | h <;> exact ⟨h.1, h.lt⟩
/-- A box stays while a builder elsewhere is written. -/
theorem TAt.bk {w w' : World} {B b p : Nat} {x : Tok} (h : TAt w p x) (hk : Bk B b w w') (hp : p ≠ b) : TAt w' p x := by
 refine hk.oth p _ h (fun e => hp (Option.some.inj e)) fun c fz e => ?_
 injection e with _ e2
 exact absurd e2 (by decide)
theorem fmtT_len {x : Tok} (h : Sm x) : (fmtT x).length ≤ 6000000000 := by
 obtain ⟨h1, h2, h3, h4⟩ := h
 have := fmtV_len x.val
 unfold fmtT
 simp only [List.length_append, List.length_cons, List.length_nil]
 split
 ·simp only [List.length_nil]; omega
 ·simp only [List.length_cons, List.length_append, List.length_nil]; omega
set_option maxHeartbeats 8000000 in
set_option maxRecDepth 100000 in
theorem format_any {w : World} {v : Value} {l : List Tok} (hm : Max w) (hh : tokT.Has w v l) (hl : l.length ≤ 1000000) (hs : ∀ x ∈ l, Sm x) : Calls Tryz.prog 52 #[v] w fun r w' => r = .returned (.tuple #[.string (bs (fmtE l).1), .int .i64 ((fmtE l).2 : Int)]) ∧ Kp [] w w' := by
 obtain ⟨va, vc, rfl, hrow⟩ := hh.form
 have HROW := Lib.hid hrow
 have HS := Lib.hid hs
 clear hrow hh hs
 go_enter Tryz.func52, Tryz.ntmps52
 go_wp2
 go_loopg [11] l.length (fun g s11 wx => ∃ i : Nat, s11 = .int .i64 (i : Int) ∧ i + g = l.length ∧ Kp [] w wx ∧ Hid ((l.take i).all goodB = true))
 case atStart => exact ⟨0, rfl, by omega, Kp.refl _ _, Lib.hid rfl⟩
 case round =>
  obtain ⟨i, rfl, hig, hkp, HG⟩ := hrel
  have HK := Lib.hid hkp
  by_cases hi : i < l.length
  ·obtain ⟨g, rfl⟩ : ∃ g, gk = g + 1 := ⟨gk - 1, by omega⟩
   obtain ⟨b, o, rfl, hbl, hr⟩ := HROW.out (by rintro rfl; simp at hi)
   obtain ⟨x, hx⟩ : ∃ x, l[i]? = some x := ⟨_, List.getElem?_eq_getElem hi⟩
   have hiz : (i : Int) < (l.length : Int) := by omega
   have hr2 : tokT.Row wr b o l := hr.keep (hkp.block b hbl (by simp))
   obtain ⟨c0, c1, c2, c3⟩ := tokRow hr2 hx
   have hsm := HS.out x (List.mem_of_getElem? hx)
   have HT := Lib.hid fun W => isToken_any x W (by have := hsm.2.2.2; omega)
   have hwi : IntKind.i64.wrap ((i : Int) + 1) = ((i + 1 : Nat) : Int) := by rw [IntKind.wrap_i64]; omega
   have HI := Lib.hid hig
   obtain ⟨wb, hwb⟩ : ∃ wb, wr.alloc (.cells #[.string (bs x.key), .string (bs x.name), .string (bs x.op), .string (bs x.val)] 81) = wb := ⟨_, rfl⟩
   obtain ⟨pb, hpb⟩ : ∃ pb, wr.heap.size = pb := ⟨_, rfl⟩
   have hTb : TAt wb pb x := by
    have h := heap_alloc_last wr (.cells #[.string (bs x.key), .string (bs x.name), .string (bs x.op), .string (bs x.val)] 81)
    rw [hwb, hpb] at h
    exact h
   obtain ⟨d0, d1, d2, d3⟩ := hTb.cells
   have hkb : Kp [] w wb := by rw [← hwb]; exact hkp.alloc _
   have HKb := Lib.hid hkb
   have HX := Lib.hid hx
   unfold tokC at HT
   clear hkp hr hr2 hx hsm hig hTb hkb hbl
   cases hg : goodB x with
   | false =>
    rw [hg] at HT
    have HE := Lib.hid (show fmtE l = ([], 82) by
     unfold fmtE
     rw [if_pos]
     rw [List.all_eq_false]
     exact ⟨x, List.mem_of_getElem? HX.out, by rw [hg]; simp⟩)
    clear hg
    go_wp2_with (go_at_call 80; refine Calls.mono (by with_reducible exact HT.out _) ?_; rintro r w4 ⟨rfl, hk⟩; have HK4 := Lib.hid (HKb.out.trans hk); clear hk)
    go_ret2
    rw [HE.out]
    exact ⟨rfl, HK4.out⟩
   | true =>
    rw [hg] at HT
    have HG2 := Lib.hid (show (l.take (i + 1)).all goodB = true by
     rw [List.take_add_one, HX.out, List.all_append, HG.out]
     simp [hg])
    clear hg
    go_wp2_with (go_at_call 80; refine Calls.mono (by with_reducible exact HT.out _) ?_; rintro r w4 ⟨rfl, hk⟩; have HK4 := Lib.hid (HKb.out.trans hk); clear hk)
    go_roundg g
    case measure => omega
    case rel => exact ⟨i + 1, rfl, by have := HI.out; omega, HK4.out, HG2⟩
  ·have hiz : ¬ ((i : Int) < (l.length : Int)) := by omega
   have HALL := Lib.hid (show l.all goodB = true by
    have h := HG.out
    rwa [List.take_of_length_le (by omega)] at h)
   have HW := Lib.hid (show wr.heap.size = wr.heap.size from rfl)
   obtain ⟨b, hb⟩ : ∃ b, wr.heap.size = b := ⟨_, rfl⟩
   obtain ⟨W0, hW⟩ : ∃ W0, wr.alloc (.cells #[.pointer none, .slice none 0 0] 118) = W0 := ⟨_, rfl⟩
   have hk0 : Kp [] w W0 := by rw [← hW]; exact hkp.alloc _
   have hB0 : Bld w.heap.size b [] W0 := by
    refine Bld.new (by rw [← hb]; exact hkp.size) ?_
    rw [← hW, ← hb]
    exact heap_alloc_last wr _
   have HK0 := Lib.hid hk0
   have HB0 := Lib.hid hB0
   clear hkp hk0 hB0 hig hi HW
   go_wp2
   clear HK hb hW hiz
   go_loopg [21] l.length (fun g s21 wx => ∃ i : Nat, s21 = .int .i64 (i : Int) ∧ i + g = l.length ∧ Bld w.heap.size b (fmtL (l.take i)) wx ∧ Kp [] w wx ∧ (fmtL (l.take i)).length ≤ 1024)
   case atStart => exact ⟨0, rfl, by omega, HB0.out, HK0.out, by simp [fmtL]⟩
   case round =>
    obtain ⟨i, rfl, hig, hbld, hkp, hacc⟩ := hrel
    have hbl := hbld.lt
    by_cases hi : i < l.length
    ·obtain ⟨g, rfl⟩ : ∃ g, gk = g + 1 := ⟨gk - 1, by omega⟩
     obtain ⟨sb, so, rfl, hsl, hr⟩ := HROW.out (by rintro rfl; simp at hi)
     obtain ⟨x, hx⟩ : ∃ x, l[i]? = some x := ⟨_, List.getElem?_eq_getElem hi⟩
     have hiz : (i : Int) < (l.length : Int) := by omega
     have hr2 : tokT.Row wr sb so l := hr.keep (hkp.block sb hsl (by simp))
     obtain ⟨c0, c1, c2, c3⟩ := tokRow hr2 hx
     have hsm := HS.out x (List.mem_of_getElem? hx)
     have hwi : IntKind.i64.wrap ((i : Int) + 1) = ((i + 1 : Nat) : Int) := by rw [IntKind.wrap_i64]; omega
     have HI := Lib.hid hig
     obtain ⟨wb, hwb⟩ : ∃ wb, wr.alloc (.cells #[.string (bs x.key), .string (bs x.name), .string (bs x.op), .string (bs x.val)] 81) = wb := ⟨_, rfl⟩
     obtain ⟨pb, hpb⟩ : ∃ pb, wr.heap.size = pb := ⟨_, rfl⟩
     have hTb : TAt wb pb x := by
      have h := heap_alloc_last wr (.cells #[.string (bs x.key), .string (bs x.name), .string (bs x.op), .string (bs x.val)] 81)
      rw [hwb, hpb] at h
      exact h
     have hkw : Kp [] wr wb := by rw [← hwb]; exact (Kp.refl [] wr).alloc _
     obtain ⟨d0, d1, d2, d3⟩ := hTb.cells
     have HTb := Lib.hid hTb
     have HKb := Lib.hid (hkp.trans hkw)
     have HBb := Lib.hid (hbld.kp0 hkw)
     have HPB := Lib.hid (show pb ≠ b by omega)
     have hwr := fun W (h : Kp [] w W) => written_any x W hsm (hm.kp h (by simp))
     unfold tokC at hwr
     have HWr := Lib.hid hwr
     have hfl := fmtT_len hsm
     have HX := Lib.hid hx
     have htk : l.take (i + 1) = l.take i ++ [x] := by rw [List.take_add_one, hx]; rfl
     clear hkp hr hr2 hx hsm hig hTb hkw hsl hwr hbld hbl
     obtain ⟨F1, hF1⟩ : ∃ F1, fmtL (l.take (i + 1)) = F1 := ⟨_, rfl⟩
     have HF1 := Lib.hid hF1
     clear hF1
     by_cases hi0 : i = 0
     ·subst hi0
      have HLN := Lib.hid (show (fmtL (l.take 0)).length + (fmtT x).length ≤ 100000000000 by omega)
      have HEQ := Lib.hid (show fmtL (l.take 0) ++ fmtT x = F1 by rw [← HF1.out, htk]; rfl)
      have hgz : ¬ ((0 : Int) < ((0 : Nat) : Int)) := by omega
      simp only [Nat.zero_mul, Nat.add_zero] at c0 c1 c2 c3
      clear htk hfl hacc
      by_cases hbig : 1024 < F1.length
      ·have hbz : (1024 : Int) < (F1.length : Int) := by omega
       have HE := Lib.hid (show fmtE l = ([], 81) by
        have := fmtL_take_all l (l.length - (0 + 1)) (0 + 1) (by omega)
        rw [HF1.out] at this
        unfold fmtE
        rw [if_neg (by rw [HALL.out]; simp), if_pos (by omega)])
       clear hbig hi
       go_wp2_with (first
       | (go_at_call 82; refine Calls.mono (by with_reducible exact HWr.out _ HKb.out) ?_; rintro r w4 ⟨rfl, hk⟩; have HK4 := Lib.hid (HKb.out.trans hk); have HB4 := Lib.hid (HBb.out.kp0 hk); have HW4 := Lib.hid (writeString_any w.heap.size b _ (fmtT x) w4 HB4.out HLN.out HK4.out.size); clear hk)
       | (go_at_call 81; refine Calls.mono (by with_reducible exact HW4.out) ?_; rintro r w5 ⟨rfl, hb5, hk5⟩; rw [HEQ.out] at hb5; have HB5 := Lib.hid hb5; have HK5 := Lib.hid (HK4.out.belowTo hk5.bel); have HL5 := Lib.hid (len_any w.heap.size b _ w5 hb5); clear hb5 hk5)
       | (go_at_call 83; refine Calls.mono (by with_reducible exact HL5.out) ?_; rintro r w6 ⟨rfl, rfl⟩))
       go_ret2
       rw [HE.out]
       exact ⟨rfl, HK5.out⟩
      ·have hbz : ¬ (1024 : Int) < (F1.length : Int) := by omega
       have HBIG := Lib.hid hbig
       clear hbig hi
       go_wp2_with (first
       | (go_at_call 82; refine Calls.mono (by with_reducible exact HWr.out _ HKb.out) ?_; rintro r w4 ⟨rfl, hk⟩; have HK4 := Lib.hid (HKb.out.trans hk); have HB4 := Lib.hid (HBb.out.kp0 hk); have HW4 := Lib.hid (writeString_any w.heap.size b _ (fmtT x) w4 HB4.out HLN.out HK4.out.size); clear hk)
       | (go_at_call 81; refine Calls.mono (by with_reducible exact HW4.out) ?_; rintro r w5 ⟨rfl, hb5, hk5⟩; rw [HEQ.out] at hb5; have HB5 := Lib.hid hb5; have HK5 := Lib.hid (HK4.out.belowTo hk5.bel); have HL5 := Lib.hid (len_any w.heap.size b _ w5 hb5); clear hb5 hk5)
       | (go_at_call 83; refine Calls.mono (by with_reducible exact HL5.out) ?_; rintro r w6 ⟨rfl, rfl⟩))
       go_roundg g
       case measure => omega
       case rel => exact ⟨0 + 1, rfl, by have := HI.out; omega, by rw [HF1.out]; exact HB5.out, HK5.out, by rw [HF1.out]; have := HBIG.out; omega⟩
     ·have hne : l.take i ≠ [] := by
       intro h
       have := congrArg List.length h
       rw [List.length_take, List.length_nil] at this
       omega
      have HLN := Lib.hid (show (fmtL (l.take i) ++ [44, 32]).length + (fmtT x).length ≤ 100000000000 by rw [List.length_append]; simp only [List.length_cons, List.length_nil]; omega)
      have HEQ := Lib.hid (show (fmtL (l.take i) ++ [44, 32]) ++ fmtT x = F1 by rw [← HF1.out, htk, fmtL_snoc _ _ hne]; simp)
      have hgz : (0 : Int) < (i : Int) := by omega
      have HA := Lib.hid (show Calls Tryz.prog 81 #[.pointer (some ⟨b, 0, none⟩), .string ⟨#[44, 32]⟩] wb fun e w' => e = .returned (.tuple #[.int .i64 (([44, 32] : List UInt8).length : Int), .nilIface]) ∧ Bld w.heap.size b (fmtL (l.take i) ++ [44, 32]) w' ∧ Bk w.heap.size b wb w' from writeString_any w.heap.size b _ [44, 32] wb HBb.out (by simp only [List.length_cons, List.length_nil]; omega) HKb.out.size)
      clear htk hfl hacc hne hi0
      by_cases hbig : 1024 < F1.length
      ·have hbz : (1024 : Int) < (F1.length : Int) := by omega
       have HE := Lib.hid (show fmtE l = ([], 81) by
        have := fmtL_take_all l (l.length - (i + 1)) (i + 1) (by omega)
        rw [HF1.out] at this
        unfold fmtE
        rw [if_neg (by rw [HALL.out]; simp), if_pos (by omega)])
       clear hbig hi
       go_wp2_with (first
       | (go_at_call 81; refine Calls.mono (by with_reducible exact HA.out) ?_; rintro r w3 ⟨rfl, hb3, hk3⟩; have HB3 := Lib.hid hb3; have HK3 := Lib.hid (HKb.out.belowTo hk3.bel); have HT3 := Lib.hid (HTb.out.bk hk3 HPB.out); obtain ⟨e0, e1, e2, e3⟩ := HT3.out.cells; clear hb3 hk3)
       | (go_at_call 82; refine Calls.mono (by with_reducible exact HWr.out _ HK3.out) ?_; rintro r w4 ⟨rfl, hk⟩; have HK4 := Lib.hid (HK3.out.trans hk); have HB4 := Lib.hid (HB3.out.kp0 hk); have HW4 := Lib.hid (writeString_any w.heap.size b _ (fmtT x) w4 HB4.out HLN.out HK4.out.size); clear hk)
       | (go_at_call 81; refine Calls.mono (by with_reducible exact HW4.out) ?_; rintro r w5 ⟨rfl, hb5, hk5⟩; rw [HEQ.out] at hb5; have HB5 := Lib.hid hb5; have HK5 := Lib.hid (HK4.out.belowTo hk5.bel); have HL5 := Lib.hid (len_any w.heap.size b _ w5 hb5); clear hb5 hk5)
       | (go_at_call 83; refine Calls.mono (by with_reducible exact HL5.out) ?_; rintro r w6 ⟨rfl, rfl⟩))
       go_ret2
       rw [HE.out]
       exact ⟨rfl, HK5.out⟩
      ·have hbz : ¬ (1024 : Int) < (F1.length : Int) := by omega
       have HBIG := Lib.hid hbig
       clear hbig hi
       go_wp2_with (first
       | (go_at_call 81; refine Calls.mono (by with_reducible exact HA.out) ?_; rintro r w3 ⟨rfl, hb3, hk3⟩; have HB3 := Lib.hid hb3; have HK3 := Lib.hid (HKb.out.belowTo hk3.bel); have HT3 := Lib.hid (HTb.out.bk hk3 HPB.out); obtain ⟨e0, e1, e2, e3⟩ := HT3.out.cells; clear hb3 hk3)
       | (go_at_call 82; refine Calls.mono (by with_reducible exact HWr.out _ HK3.out) ?_; rintro r w4 ⟨rfl, hk⟩; have HK4 := Lib.hid (HK3.out.trans hk); have HB4 := Lib.hid (HB3.out.kp0 hk); have HW4 := Lib.hid (writeString_any w.heap.size b _ (fmtT x) w4 HB4.out HLN.out HK4.out.size); clear hk)
       | (go_at_call 81; refine Calls.mono (by with_reducible exact HW4.out) ?_; rintro r w5 ⟨rfl, hb5, hk5⟩; rw [HEQ.out] at hb5; have HB5 := Lib.hid hb5; have HK5 := Lib.hid (HK4.out.belowTo hk5.bel); have HL5 := Lib.hid (len_any w.heap.size b _ w5 hb5); clear hb5 hk5)
       | (go_at_call 83; refine Calls.mono (by with_reducible exact HL5.out) ?_; rintro r w6 ⟨rfl, rfl⟩))
       go_roundg g
       case measure => omega
       case rel => exact ⟨i + 1, rfl, by have := HI.out; omega, by rw [HF1.out]; exact HB5.out, HK5.out, by rw [HF1.out]; have := HBIG.out; omega⟩
    ·have hiz : ¬ ((i : Int) < (l.length : Int)) := by omega
     have hie : l.take i = l := List.take_of_length_le (by omega)
     rw [hie] at hbld hacc
     have HE := Lib.hid (show fmtE l = (fmtL l, 0) by
      unfold fmtE
      rw [if_neg (by rw [HALL.out]; simp), if_neg (by omega)])
     have HST := Lib.hid (str_any w.heap.size b _ wr hbld hkp.size)
     have HKp := Lib.hid hkp
     clear hbld hacc hkp hig hi hie hbl
     go_wp2_with (go_at_call 84; refine Calls.mono (by with_reducible exact HST.out) ?_; rintro r w1 ⟨rfl, hb1, hk1⟩; have HK1 := Lib.hid (HKp.out.belowTo hk1.bel); clear hb1 hk1)
     go_ret2
     rw [HE.out]
     exact ⟨rfl, HK1.out⟩
end Go.Proofs.YtkkibibecgcbmaaGreatDoor.Lx
namespace Go.Proofs.YtkkibibecgcbmaaGreatDoor.Lx
open Go.RowKit
theorem valL_len : ∀ (n : Nat) (s v q : List UInt8), s.length ≤ n → valL s = .ok v q → v.length + q.length + 1 ≤ s.length
 | _, [], v, q, _, h => by rw [valL.eq_def] at h; cases h
 | n + 1, b :: r, v, q, hn, h => by
  rw [valL.eq_def] at h
  simp only at h
  simp only [List.length_cons] at hn ⊢
  split at h
  ·cases h
   simp
  ·split at h
   ·cases h
   ·split at h
    ·split at h
     ·cases h
     ·cases h
     ·rename_i r' _ _ v' q' hv
      cases h
      simp only [List.length_cons] at hn ⊢
      have := valL_len n _ _ _ (by omega) hv
      omega
    ·split at h
     ·cases h
     ·cases h
     ·rename_i hv
      cases h
      have := valL_len n _ _ _ (by omega) hv
      simp only [List.length_cons]
      omega
theorem opL_len {k n s q : List UInt8} {x : Tok} (h : opL k n s = .ok x q) : x.key = k ∧ x.name = n ∧ x.op.length ≤ 2 ∧ x.val.length ≤ s.length := by
 unfold opL at h
 split at h
 ·cases h
 ·rename_i o ho
  have ho2 : o ∈ opsL := List.mem_of_find?_eq_some ho
  have ho3 : ∀ o ∈ opsL, o.length ≤ 2 := by decide
  split at h
  ·rename_i r hr
   split at h
   ·cases h
   ·cases h
   ·rename_i v q' hv
    cases h
    have h1 := valL_len _ r v _ (Nat.le_refl _) hv
    have hd : (s.drop o.length).length ≤ s.length := by simp
    rw [hr, List.length_cons] at hd
    exact ⟨rfl, rfl, ho3 o ho2, by simp only; omega⟩
  ·cases h
theorem tokenL_len {s q : List UInt8} {x : Tok} (h : tokenL s = .ok x q) : x.key.length ≤ s.length ∧ x.name.length ≤ s.length ∧ x.op.length ≤ 2 ∧ x.val.length ≤ s.length := by
 have e1 := congrArg List.length (spanL_eq upCh s).1
 rw [List.length_append] at e1
 unfold tokenL at h
 split at h
 ·cases h
 ·split at h
  ·obtain ⟨a, b, c, d⟩ := opL_len h
   rw [a, b]
   simp only [List.length_nil] at d ⊢
   exact ⟨by omega, by omega, c, by omega⟩
  ·rename_i c s1 hs1
   rw [hs1, List.length_cons] at e1
   split at h
   ·unfold nameL at h
    have e2 := congrArg List.length (spanL_eq nmCh s1).1
    rw [List.length_append] at e2
    split at h
    ·cases h
    ·rename_i c2 s2 hs2
     rw [hs2, List.length_cons] at e2
     split at h
     ·cases h
     ·split at h
      ·obtain ⟨a, b, c, d⟩ := opL_len h
       rw [a, b]
       exact ⟨by omega, by omega, c, by omega⟩
      ·cases h
   ·obtain ⟨a, b, c, d⟩ := opL_len h
    rw [a, b]
    simp only [List.length_nil, List.length_cons] at d ⊢
    exact ⟨by omega, by omega, c, by omega⟩
theorem tokensF_len (N : Nat) : ∀ (f : Nat) (s : List UInt8) (l : List Tok) (q : List UInt8), s.all lnCh = true → s.length ≤ N → tokensF f s = .ok l q → l.length ≤ s.length ∧ ∀ x ∈ l, x.key.length ≤ N ∧ x.name.length ≤ N ∧ x.op.length ≤ 2 ∧ x.val.length ≤ N
 | 0, _, _, _, _, _, h => by cases h
 | f + 1, s, l, q, hs, hN, h => by
  rw [tokensF] at h
  split at h
  ·cases h
   exact ⟨Nat.zero_le _, fun x hx => by cases hx⟩
  ·split at h
   ·cases h
   ·cases h
   ·rename_i x r hx
    obtain ⟨g, p, hp, hpn⟩ := tokenL_good hs hx
    obtain ⟨y1, y2, y3, y4⟩ := tokenL_len hx
    split at h
    ·cases h
    ·split at h
     ·cases h
     ·cases h
     ·rename_i l' q' hl
      cases h
      have hr : r.all lnCh = true := all_suffix hs hp.symm
      have ht : (trimL r).all lnCh = true := List.all_eq_true.2 fun b hb => List.all_eq_true.1 hr b ((List.dropWhile_sublist _).mem hb)
      have hlr := trimL_le r
      have hls : r.length < s.length := by
       rw [hp, List.length_append]
       have := List.length_pos_iff.2 hpn
       omega
      obtain ⟨i1, i2⟩ := tokensF_len N f (trimL r) l' _ ht (by omega) hl
      refine ⟨by rw [List.length_cons]; omega, fun z hz => ?_⟩
      rcases List.mem_cons.1 hz with rfl | hz
      ·exact ⟨by omega, by omega, y3, by omega⟩
      ·exact i2 z hz
/-- WHAT A LINE'S TOKENS ARE LIKE. -/
theorem read_ok {t : List UInt8} {l : List Tok} (h : tokensE t = (l, 0)) : l.length ≤ 1024 ∧ (∀ x ∈ l, Good x) ∧ ∀ x ∈ l, Sm x := by
 unfold tokensE at h
 split at h
 ·cases h
 ·split at h
  ·cases h
  ·rename_i h1 h2
   split at h
   ·cases h
   ·cases h
   ·rename_i l' q hl
    cases h
    have hln : t.all lnCh = true := by simpa using h2
    have ht : (trimL t).all lnCh = true := List.all_eq_true.2 fun b hb => List.all_eq_true.1 hln b ((List.dropWhile_sublist _).mem hb)
    have hlt := trimL_le t
    obtain ⟨i1, i2⟩ := tokensF_len 1024 _ _ _ _ ht (by omega) hl
    exact ⟨by omega, tokensF_good _ _ _ _ ht hl, fun x hx => by obtain ⟨a, b, c, d⟩ := i2 x hx; exact ⟨by omega, by omega, by omega, by omega⟩⟩
end Go.Proofs.YtkkibibecgcbmaaGreatDoor.Lx
