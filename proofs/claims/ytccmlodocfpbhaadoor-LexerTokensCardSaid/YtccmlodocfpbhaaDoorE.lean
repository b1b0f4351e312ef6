/- beginning: a token up to its quote. -/
import Derived.Test.YtccmlodocfpbhaaDoorD
namespace Go.Proofs.YtccmlodocfpbhaaDoor
open Go.RowKit

def tok0 : Tok := ⟨[], [], [], []⟩
def begV : Rd Tok → Value
  | .bad => .tuple #[.agg (tokC tok0), .string (bs []), .int .i64 82]
  | .cut => .tuple #[.agg (tokC tok0), .string (bs []), .int .i64 83]
  | .ok t r => .tuple #[.agg (tokC t), .string (bs r), .int .i64 0]
theorem take2 (l : List UInt8) (w : World) : Calls Tryd.prog 58 #[.string (bs l), .int .i64 2] w fun r w' => r = .returned (.tuple #[.string (bs (spanL upCh l).1), .string (bs (spanL upCh l).2)]) ∧ Kp [] w w' := by
  have h := take_any l 2 w (by decide)
  rw [inC_key] at h
  exact h
theorem take4 (l : List UInt8) (w : World) : Calls Tryd.prog 58 #[.string (bs l), .int .i64 4] w fun r w' => r = .returned (.tuple #[.string (bs (spanL nmCh l).1), .string (bs (spanL nmCh l).2)]) ∧ Kp [] w w' := by
  have h := take_any l 4 w (by decide)
  rw [inC_name] at h
  exact h
theorem take8 (l : List UInt8) (w : World) : Calls Tryd.prog 58 #[.string (bs l), .int .i64 8] w fun r w' => r = .returned (.tuple #[.string (bs (spanL opCh l).1), .string (bs (spanL opCh l).2)]) ∧ Kp [] w w' := by
  have h := take_any l 8 w (by decide)
  rw [inC_op] at h
  exact h
theorem prefix_yes (c : UInt8) (l : List UInt8) : Lib.hasPrefix (c :: l) [c] = true ∧ Lib.trimPrefix (c :: l) [c] = l := by
  have h : Lib.hasPrefix (c :: l) [c] = true := by simp [Lib.hasPrefix, List.isPrefixOf]
  exact ⟨h, by simp [Lib.trimPrefix, h]⟩
theorem prefix_no (c : UInt8) (l : List UInt8) (hl : ∀ r, l ≠ c :: r) : Lib.hasPrefix l [c] = false ∧ Lib.trimPrefix l [c] = l := by
  have h : Lib.hasPrefix l [c] = false := by
    cases l with
    | nil => rfl
    | cons b r =>
      simp only [Lib.hasPrefix, List.isPrefixOf, Bool.and_true]
      exact beq_eq_false_iff_ne.2 fun e => hl r (by rw [e])
  exact ⟨h, by simp [Lib.trimPrefix, h]⟩
theorem cutp_yes (c : UInt8) (l : List UInt8) (w : World) : Calls Tryd.prog 59 #[.string (bs (c :: l)), .string ⟨#[c]⟩] w fun r w' => r = .returned (.tuple #[.string (bs l), .bool true]) ∧ w' = w := by
  have h := Tryd.strings_CutPrefix (bs (c :: l)) ⟨#[c]⟩ w
  rw [bs_data, show (⟨#[c]⟩ : ByteArray).data.toList = [c] from rfl, (prefix_yes c l).1, (prefix_yes c l).2] at h
  exact h
theorem cutp_no (c : UInt8) (l : List UInt8) (w : World) (hl : ∀ r, l ≠ c :: r) : Calls Tryd.prog 59 #[.string (bs l), .string ⟨#[c]⟩] w fun r w' => r = .returned (.tuple #[.string (bs l), .bool false]) ∧ w' = w := by
  have h := Tryd.strings_CutPrefix (bs l) ⟨#[c]⟩ w
  rw [bs_data, show (⟨#[c]⟩ : ByteArray).data.toList = [c] from rfl, (prefix_no c l hl).1, (prefix_no c l hl).2] at h
  exact h
theorem TAt.put0 {w : World} {b : Nat} {x : Tok} (h : TAt w b x) (l : List UInt8) : TAt (w.setCell ⟨b, 0, none⟩ (.string (bs l))) b { x with key := l } := by
  unfold TAt tokC at h ⊢
  simp [World.setCell, Array.getElem?_modify, h]
theorem TAt.put1 {w : World} {b : Nat} {x : Tok} (h : TAt w b x) (l : List UInt8) : TAt (w.setCell ⟨b, 1, none⟩ (.string (bs l))) b { x with name := l } := by
  unfold TAt tokC at h ⊢
  simp [World.setCell, Array.getElem?_modify, h]
theorem TAt.put2 {w : World} {b : Nat} {x : Tok} (h : TAt w b x) (l : List UInt8) : TAt (w.setCell ⟨b, 2, none⟩ (.string (bs l))) b { x with op := l } := by
  unfold TAt tokC at h ⊢
  simp [World.setCell, Array.getElem?_modify, h]
theorem TAt.put3 {w : World} {b : Nat} {x : Tok} (h : TAt w b x) (l : List UInt8) : TAt (w.setCell ⟨b, 3, none⟩ (.string (bs l))) b { x with val := l } := by
  unfold TAt tokC at h ⊢
  simp [World.setCell, Array.getElem?_modify, h]
theorem TAt.frz {w : World} {b o : Nat} {x : Tok} (h : TAt w b x) : w.frozen? ⟨b, o, none⟩ = false := by simp [World.frozen?, show w.heap[b]? = _ from h]
theorem TAt.other {w : World} {b : Nat} {x : Tok} (h : TAt w b x) {p : Addr} (hp : b ≠ p.block) (v : Value) : TAt (w.setCell p v) b x := (Below.heap_setCell _ _ _ _ hp).trans h
/-- A whole token laid over a block that holds one. -/
theorem TAt.all {w : World} {b : Nat} {x : Tok} (h : TAt w b x) (y : Tok) : TAt ((((w.setCell ⟨b, 0, none⟩ (.string (bs y.key))).setCell ⟨b, 1, none⟩ (.string (bs y.name))).setCell ⟨b, 2, none⟩ (.string (bs y.op))).setCell ⟨b, 3, none⟩ (.string (bs y.val))) b y :=
  (((h.put0 y.key).put1 y.name).put2 y.op).put3 y.val

set_option maxHeartbeats 1000000 in
theorem beg_end {a : Act} {W : World} {R : Nat} {t : Tok} {b e : Value} {Q : Ending → World → Prop} (h : TAt W R t) (h2 : a.tmps.getD 2 undef = .pointer (some ⟨R, 0, none⟩)) (h3 : a.tmps.getD 3 undef = b) (h4 : a.tmps.getD 4 undef = e) (hd : a.defers = [])
    (hq : Q (.returned (.tuple #[.agg (tokC t), b, e])) W) : bodyPost Tryd.prog Tryd.f33 Q .ret a W := by
  obtain ⟨z0, z1, z2, z3⟩ := h.cells
  refine bodyPost_ret (v := .tuple #[.agg (tokC t), b, e]) ?_ hd hq
  rw [Array.getD_eq_getD_getElem?] at h2 h3 h4
  simp [results, Tryd.results33, go_sem, h2, h3, h4, z0, z1, z2, z3]
  rfl

def begM (kk : List UInt8) : List UInt8 → Rd Tok
  | 123 :: s1 => (match (spanL nmCh s1).2 with
    | [] => .cut
    | c :: s2 => if (spanL nmCh s1).1 = [] ∨ c ≠ 125 then .bad else begO kk (spanL nmCh s1).1 s2)
  | s1 => begO kk [] s1
theorem begL_at {s kk r1 : List UInt8} (h : spanL upCh s = (kk, r1)) : begL s = if kk = [] then .bad else begM kk r1 := by
  unfold begL begM
  rw [h]
  rfl
def opM (k n oo : List UInt8) : List UInt8 → Rd Tok
  | 34 :: r => .ok ⟨k, n, oo, []⟩ r
  | _ => .bad
theorem begO_at {k n x oo r3 : List UInt8} (h : spanL opCh x = (oo, r3)) : begO k n x = if opsL.contains oo then opM k n oo r3 else .bad := by
  unfold begO opB opM
  rw [h]
  split
  · cases r3 with
    | nil => rfl
    | cons c r =>
      simp only
      by_cases hc : c = 34
      · subst hc
        rfl
      · split
        · rename_i h2
          cases h2
          exact absurd rfl hc
        · split
          · rename_i h2
            cases h2
            exact absurd rfl hc
          · rfl
  · rfl
theorem begO_bad {k n x oo r3 : List UInt8} (h : spanL opCh x = (oo, r3)) (ho : opsL.contains oo = false) : begO k n x = .bad := by
  rw [begO_at h, if_neg (by rw [ho]; exact Bool.false_ne_true)]
theorem begO_no {k n x oo r3 : List UInt8} (h : spanL opCh x = (oo, r3)) (hr : ∀ r, r3 ≠ 34 :: r) : begO k n x = .bad := by
  rw [begO_at h]
  split
  · unfold opM
    split
    · rename_i r
      exact absurd rfl (hr r)
    · rfl
  · rfl
theorem begO_ok {k n x oo r : List UInt8} (h : spanL opCh x = (oo, 34 :: r)) (ho : opsL.contains oo = true) : begO k n x = .ok ⟨k, n, oo, []⟩ r := by
  rw [begO_at h, if_pos ho]
  rfl
theorem begM_plain {kk r1 : List UInt8} (hr : ∀ r, r1 ≠ 123 :: r) : begM kk r1 = begO kk [] r1 := by
  unfold begM
  split
  · rename_i s1
    exact absurd rfl (hr s1)
  · rfl
def nmM (kk nn : List UInt8) : List UInt8 → Rd Tok
  | [] => .cut
  | c :: s2 => if nn = [] ∨ c ≠ 125 then .bad else begO kk nn s2
theorem begM_brace {kk s1 nn r2 : List UInt8} (h : spanL nmCh s1 = (nn, r2)) : begM kk (123 :: s1) = nmM kk nn r2 := by
  unfold begM nmM
  simp only [h]

set_option maxHeartbeats 4000000 in
set_option maxRecDepth 100000 in
theorem begin_any (s : List UInt8) (w : World) : Calls Tryd.prog 33 #[.string (bs s)] w fun r w' => r = .returned (begV (begL s)) ∧ Kp [] w w' := by
  obtain ⟨R, hR⟩ : ∃ R, w.heap.size = R := ⟨_, rfl⟩
  obtain ⟨T, hT⟩ : ∃ T, R + 1 = T := ⟨_, rfl⟩
  obtain ⟨W0, hW⟩ : ∃ W0, (w.alloc (.cells #[.string ⟨#[]⟩, .string ⟨#[]⟩, .string ⟨#[]⟩, .string ⟨#[]⟩] 43)).alloc (.cells #[.string ⟨#[]⟩, .string ⟨#[]⟩, .string ⟨#[]⟩, .string ⟨#[]⟩] 43) = W0 := ⟨_, rfl⟩
  have hK : Kp [] w W0 := by rw [← hW]; exact ((Kp.refl [] w).alloc _).alloc _
  have hTA : TAt W0 T tok0 := by
    have h := heap_alloc_last (w.alloc (.cells #[.string ⟨#[]⟩, .string ⟨#[]⟩, .string ⟨#[]⟩, .string ⟨#[]⟩] 43)) (.cells #[.string ⟨#[]⟩, .string ⟨#[]⟩, .string ⟨#[]⟩, .string ⟨#[]⟩] 43)
    rw [hW, show (w.alloc (.cells #[.string ⟨#[]⟩, .string ⟨#[]⟩, .string ⟨#[]⟩, .string ⟨#[]⟩] 43)).heap.size = T by simp; omega] at h
    exact h
  have hRA : TAt W0 R tok0 := by
    have h := heap_alloc_last w (.cells #[.string ⟨#[]⟩, .string ⟨#[]⟩, .string ⟨#[]⟩, .string ⟨#[]⟩] 43)
    rw [← hW, ← hR]
    exact (((Kp.refl [] _).alloc _).block _ (by simp) (by simp)).trans h
  have hRT : R ≠ T := by omega
  have hTR : T ≠ R := by omega
  have hRw : w.heap.size ≤ R := by omega
  have hTw : w.heap.size ≤ T := by omega
  obtain ⟨c0, c1, c2, c3⟩ := hTA.cells
  have he0 : (bs []).toList.isEmpty = true := bs_isEmpty []
  have cf := fun o => hTA.frz (o := o)
  have rf := fun o => hRA.frz (o := o)
  have HK := Lib.hid hK
  have HT := Lib.hid hTA
  have HR := Lib.hid hRA
  have H2 := Lib.hid fun W => take2 s W
  clear hK hTA hRA
  obtain ⟨kk, r1, hsp⟩ : ∃ kk r1, spanL upCh s = (kk, r1) := ⟨_, _, rfl⟩
  have hbe := begL_at hsp
  rw [hsp] at H2
  simp only at H2
  have HSP := Lib.hid hsp
  clear hsp
  cases kk with
  | nil =>
    rw [if_pos rfl] at hbe
    rw [hbe]
    clear hbe
    go_enter Tryd.func33, Tryd.ntmps33
    go_wp2_with (first
      | (go_at_call 58; refine Calls.mono (by with_reducible exact H2.out _) ?_; rintro r w1 ⟨rfl, hk⟩; have HK1 := Lib.hid ((HK.out).trans hk); have HT1 := Lib.hid ((HT.out).kp hk (by simp)); have HR1 := Lib.hid ((HR.out).kp hk (by simp)); clear hk; obtain ⟨d10, d11, d12, d13⟩ := HT1.out.cells; obtain ⟨e10, e11, e12, e13⟩ := HR1.out.cells; have df1 := fun o => HT1.out.frz (o := o); have ef1 := fun o => HR1.out.frz (o := o)))
    refine beg_end (TAt.all (HR1.out.other (p := ⟨T, 0, none⟩) hRT (.string (bs []))) tok0) rfl rfl rfl rfl ⟨rfl, ?_⟩
    exact (((((HK1.out.setCell (.inr hTw) _).setCell (.inr hRw) _).setCell (.inr hRw) _).setCell (.inr hRw) _).setCell (.inr hRw) _)
  | cons k0 k1 =>
    have hkk : k0 :: k1 ≠ [] := by simp
    have hke : (bs (k0 :: k1)).toList.isEmpty = false := bs_isEmpty _
    rw [if_neg hkk] at hbe
    generalize k0 :: k1 = kk at *
    by_cases hbr : ∃ s1, r1 = 123 :: s1
    · obtain ⟨s1, rfl⟩ := hbr
      have HC := Lib.hid fun W => cutp_yes 123 s1 W
      have H4 := Lib.hid fun W => take4 s1 W
      obtain ⟨nn, r2, hsn⟩ : ∃ nn r2, spanL nmCh s1 = (nn, r2) := ⟨_, _, rfl⟩
      have hbm := begM_brace (kk := kk) hsn
      rw [hbm] at hbe
      rw [hsn] at H4
      simp only at H4
      clear hsn hbm
      cases r2 with
      | nil =>
        simp only [nmM] at hbe
        rw [hbe]
        clear hbe
        go_enter Tryd.func33, Tryd.ntmps33
        go_wp2_with (first
          | (go_at_call 58; refine Calls.mono (by with_reducible exact H2.out _) ?_; rintro r w1 ⟨rfl, hk⟩; have HK1 := Lib.hid ((HK.out).trans hk); have HT1 := Lib.hid ((HT.out).kp hk (by simp)); have HR1 := Lib.hid ((HR.out).kp hk (by simp)); clear hk; obtain ⟨d10, d11, d12, d13⟩ := HT1.out.cells; obtain ⟨e10, e11, e12, e13⟩ := HR1.out.cells; have df1 := fun o => HT1.out.frz (o := o); have ef1 := fun o => HR1.out.frz (o := o))
          | (go_at_call 59; refine Calls.mono (by with_reducible exact HC.out _) ?_; rintro r w9 ⟨rfl, rfl⟩)
          | (go_at_call 58; refine Calls.mono (by with_reducible exact H4.out _) ?_; rintro r w2 ⟨rfl, hk⟩; have HK2 := Lib.hid ((HK1.out.setCell (p := ⟨T, 0, none⟩) (.inr hTw) (.string (bs kk))).trans hk); have HT2 := Lib.hid ((HT1.out.put0 kk).kp hk (by simp)); have HR2 := Lib.hid ((HR1.out.other (p := ⟨T, 0, none⟩) hRT (.string (bs kk))).kp hk (by simp)); clear hk; obtain ⟨d20, d21, d22, d23⟩ := HT2.out.cells; obtain ⟨e20, e21, e22, e23⟩ := HR2.out.cells; have df2 := fun o => HT2.out.frz (o := o); have ef2 := fun o => HR2.out.frz (o := o)))
        refine beg_end (TAt.all (HR2.out.other (p := ⟨T, 1, none⟩) hRT (.string (bs nn))) tok0) rfl rfl rfl rfl ⟨rfl, ?_⟩
        exact (((((HK2.out.setCell (.inr hTw) _).setCell (.inr hRw) _).setCell (.inr hRw) _).setCell (.inr hRw) _).setCell (.inr hRw) _)
      | cons c s2 =>
        simp only [nmM] at hbe
        have h2e : (bs (c :: s2)).toList.isEmpty = false := bs_isEmpty _
        have hz : (0 : Int) < ((bs (c :: s2)).size : Int) := by rw [bs_size]; simp
        have hz1 : (1 : Int) ≤ ((bs (c :: s2)).size : Int) := by rw [bs_size]; simp; omega
        cases nn with
        | nil =>
          rw [if_pos (.inl rfl)] at hbe
          rw [hbe]
          clear hbe
          go_enter Tryd.func33, Tryd.ntmps33
          go_wp2_with (first
            | (go_at_call 58; refine Calls.mono (by with_reducible exact H2.out _) ?_; rintro r w1 ⟨rfl, hk⟩; have HK1 := Lib.hid ((HK.out).trans hk); have HT1 := Lib.hid ((HT.out).kp hk (by simp)); have HR1 := Lib.hid ((HR.out).kp hk (by simp)); clear hk; obtain ⟨d10, d11, d12, d13⟩ := HT1.out.cells; obtain ⟨e10, e11, e12, e13⟩ := HR1.out.cells; have df1 := fun o => HT1.out.frz (o := o); have ef1 := fun o => HR1.out.frz (o := o))
            | (go_at_call 59; refine Calls.mono (by with_reducible exact HC.out _) ?_; rintro r w9 ⟨rfl, rfl⟩)
            | (go_at_call 58; refine Calls.mono (by with_reducible exact H4.out _) ?_; rintro r w2 ⟨rfl, hk⟩; have HK2 := Lib.hid ((HK1.out.setCell (p := ⟨T, 0, none⟩) (.inr hTw) (.string (bs kk))).trans hk); have HT2 := Lib.hid ((HT1.out.put0 kk).kp hk (by simp)); have HR2 := Lib.hid ((HR1.out.other (p := ⟨T, 0, none⟩) hRT (.string (bs kk))).kp hk (by simp)); clear hk; obtain ⟨d20, d21, d22, d23⟩ := HT2.out.cells; obtain ⟨e20, e21, e22, e23⟩ := HR2.out.cells; have df2 := fun o => HT2.out.frz (o := o); have ef2 := fun o => HR2.out.frz (o := o)))
          refine beg_end (TAt.all (HR2.out.other (p := ⟨T, 1, none⟩) hRT (.string (bs []))) tok0) rfl rfl rfl rfl ⟨rfl, ?_⟩
          exact (((((HK2.out.setCell (.inr hTw) _).setCell (.inr hRw) _).setCell (.inr hRw) _).setCell (.inr hRw) _).setCell (.inr hRw) _)
        | cons n0 n1 =>
          have hnn : n0 :: n1 ≠ [] := by simp
          have hne : (bs (n0 :: n1)).toList.isEmpty = false := bs_isEmpty _
          generalize n0 :: n1 = nn at *
          have hh : (bs (c :: s2))[0]'(by rw [bs_size]; simp) = c := rfl
          by_cases hc : c = 125
          · have hcn : ((c.toNat : Int) != 125) = false := by rw [hc]; rfl
            rw [if_neg (by simp [hnn, hc])] at hbe
            have H8 := Lib.hid fun W => take8 s2 W
            have hex : bs s2 = (bs (c :: s2)).extract 1 (bs (c :: s2)).size := by rw [bs_drop]; rfl
            rw [hex] at H8
            clear hex hc
            obtain ⟨oo, r3, hso⟩ : ∃ oo r3, spanL opCh s2 = (oo, r3) := ⟨_, _, rfl⟩
            rw [hso] at H8
            simp only at H8
            have HO := Lib.hid fun W => isOp_any oo W
            by_cases hq : ∃ r, r3 = 34 :: r
            · obtain ⟨r, rfl⟩ := hq
              have HQ := Lib.hid fun W => cutp_yes 34 r W
              cases hoo : opsL.contains oo with
              | false =>
                rw [hoo] at HO
                rw [begO_bad hso hoo] at hbe
                rw [hbe]
                clear hbe hso hoo
                go_enter Tryd.func33, Tryd.ntmps33
                go_wp2_with (first
                  | (go_at_call 58; refine Calls.mono (by with_reducible exact H2.out _) ?_; rintro r w1 ⟨rfl, hk⟩; have HK1 := Lib.hid ((HK.out).trans hk); have HT1 := Lib.hid ((HT.out).kp hk (by simp)); have HR1 := Lib.hid ((HR.out).kp hk (by simp)); clear hk; obtain ⟨d10, d11, d12, d13⟩ := HT1.out.cells; obtain ⟨e10, e11, e12, e13⟩ := HR1.out.cells; have df1 := fun o => HT1.out.frz (o := o); have ef1 := fun o => HR1.out.frz (o := o))
                  | (go_at_call 59; refine Calls.mono (by with_reducible exact HC.out _) ?_; rintro r w9 ⟨rfl, rfl⟩)
                  | (go_at_call 58; refine Calls.mono (by with_reducible exact H4.out _) ?_; rintro r w2 ⟨rfl, hk⟩; have HK2 := Lib.hid ((HK1.out.setCell (p := ⟨T, 0, none⟩) (.inr hTw) (.string (bs kk))).trans hk); have HT2 := Lib.hid ((HT1.out.put0 kk).kp hk (by simp)); have HR2 := Lib.hid ((HR1.out.other (p := ⟨T, 0, none⟩) hRT (.string (bs kk))).kp hk (by simp)); clear hk; obtain ⟨d20, d21, d22, d23⟩ := HT2.out.cells; obtain ⟨e20, e21, e22, e23⟩ := HR2.out.cells; have df2 := fun o => HT2.out.frz (o := o); have ef2 := fun o => HR2.out.frz (o := o))
                  | (go_at_call 58; refine Calls.mono (by with_reducible exact H8.out _) ?_; rintro r w3 ⟨rfl, hk⟩; have HK3 := Lib.hid ((HK2.out.setCell (p := ⟨T, 1, none⟩) (.inr hTw) (.string (bs nn))).trans hk); have HT3 := Lib.hid ((HT2.out.put1 nn).kp hk (by simp)); have HR3 := Lib.hid ((HR2.out.other (p := ⟨T, 1, none⟩) hRT (.string (bs nn))).kp hk (by simp)); clear hk; obtain ⟨d30, d31, d32, d33⟩ := HT3.out.cells; obtain ⟨e30, e31, e32, e33⟩ := HR3.out.cells; have df3 := fun o => HT3.out.frz (o := o); have ef3 := fun o => HR3.out.frz (o := o))
                  | (go_at_call 59; refine Calls.mono (by with_reducible exact HQ.out _) ?_; rintro r w9 ⟨rfl, rfl⟩)
                  | (go_at_call 60; refine Calls.mono (by with_reducible exact HO.out _) ?_; rintro r w9 ⟨rfl, rfl⟩))
                refine beg_end (TAt.all (HR3.out.other (p := ⟨T, 2, none⟩) hRT (.string (bs oo))) tok0) rfl rfl rfl rfl ⟨rfl, ?_⟩
                exact (((((HK3.out.setCell (.inr hTw) _).setCell (.inr hRw) _).setCell (.inr hRw) _).setCell (.inr hRw) _).setCell (.inr hRw) _)
              | true =>
                rw [hoo] at HO
                rw [begO_ok hso hoo] at hbe
                rw [hbe]
                clear hbe hso hoo
                go_enter Tryd.func33, Tryd.ntmps33
                go_wp2_with (first
                  | (go_at_call 58; refine Calls.mono (by with_reducible exact H2.out _) ?_; rintro r w1 ⟨rfl, hk⟩; have HK1 := Lib.hid ((HK.out).trans hk); have HT1 := Lib.hid ((HT.out).kp hk (by simp)); have HR1 := Lib.hid ((HR.out).kp hk (by simp)); clear hk; obtain ⟨d10, d11, d12, d13⟩ := HT1.out.cells; obtain ⟨e10, e11, e12, e13⟩ := HR1.out.cells; have df1 := fun o => HT1.out.frz (o := o); have ef1 := fun o => HR1.out.frz (o := o))
                  | (go_at_call 59; refine Calls.mono (by with_reducible exact HC.out _) ?_; rintro r w9 ⟨rfl, rfl⟩)
                  | (go_at_call 58; refine Calls.mono (by with_reducible exact H4.out _) ?_; rintro r w2 ⟨rfl, hk⟩; have HK2 := Lib.hid ((HK1.out.setCell (p := ⟨T, 0, none⟩) (.inr hTw) (.string (bs kk))).trans hk); have HT2 := Lib.hid ((HT1.out.put0 kk).kp hk (by simp)); have HR2 := Lib.hid ((HR1.out.other (p := ⟨T, 0, none⟩) hRT (.string (bs kk))).kp hk (by simp)); clear hk; obtain ⟨d20, d21, d22, d23⟩ := HT2.out.cells; obtain ⟨e20, e21, e22, e23⟩ := HR2.out.cells; have df2 := fun o => HT2.out.frz (o := o); have ef2 := fun o => HR2.out.frz (o := o))
                  | (go_at_call 58; refine Calls.mono (by with_reducible exact H8.out _) ?_; rintro r w3 ⟨rfl, hk⟩; have HK3 := Lib.hid ((HK2.out.setCell (p := ⟨T, 1, none⟩) (.inr hTw) (.string (bs nn))).trans hk); have HT3 := Lib.hid ((HT2.out.put1 nn).kp hk (by simp)); have HR3 := Lib.hid ((HR2.out.other (p := ⟨T, 1, none⟩) hRT (.string (bs nn))).kp hk (by simp)); clear hk; obtain ⟨d30, d31, d32, d33⟩ := HT3.out.cells; obtain ⟨e30, e31, e32, e33⟩ := HR3.out.cells; have df3 := fun o => HT3.out.frz (o := o); have ef3 := fun o => HR3.out.frz (o := o))
                  | (go_at_call 59; refine Calls.mono (by with_reducible exact HQ.out _) ?_; rintro r w9 ⟨rfl, rfl⟩)
                  | (go_at_call 60; refine Calls.mono (by with_reducible exact HO.out _) ?_; rintro r w9 ⟨rfl, rfl⟩))
                refine beg_end (TAt.all (HR3.out.other (p := ⟨T, 2, none⟩) hRT (.string (bs oo))) ⟨kk, nn, oo, []⟩) rfl rfl rfl rfl ⟨rfl, ?_⟩
                exact (((((HK3.out.setCell (.inr hTw) _).setCell (.inr hRw) _).setCell (.inr hRw) _).setCell (.inr hRw) _).setCell (.inr hRw) _)
            · have hq2 : ∀ r, r3 ≠ 34 :: r := fun r h => hq ⟨r, h⟩
              have HQ := Lib.hid fun W => cutp_no 34 r3 W hq2
              rw [begO_no hso hq2] at hbe
              rw [hbe]
              clear hbe hso hq hq2
              cases hoo : opsL.contains oo with
              | false =>
                rw [hoo] at HO
                clear hoo
                go_enter Tryd.func33, Tryd.ntmps33
                go_wp2_with (first
                  | (go_at_call 58; refine Calls.mono (by with_reducible exact H2.out _) ?_; rintro r w1 ⟨rfl, hk⟩; have HK1 := Lib.hid ((HK.out).trans hk); have HT1 := Lib.hid ((HT.out).kp hk (by simp)); have HR1 := Lib.hid ((HR.out).kp hk (by simp)); clear hk; obtain ⟨d10, d11, d12, d13⟩ := HT1.out.cells; obtain ⟨e10, e11, e12, e13⟩ := HR1.out.cells; have df1 := fun o => HT1.out.frz (o := o); have ef1 := fun o => HR1.out.frz (o := o))
                  | (go_at_call 59; refine Calls.mono (by with_reducible exact HC.out _) ?_; rintro r w9 ⟨rfl, rfl⟩)
                  | (go_at_call 58; refine Calls.mono (by with_reducible exact H4.out _) ?_; rintro r w2 ⟨rfl, hk⟩; have HK2 := Lib.hid ((HK1.out.setCell (p := ⟨T, 0, none⟩) (.inr hTw) (.string (bs kk))).trans hk); have HT2 := Lib.hid ((HT1.out.put0 kk).kp hk (by simp)); have HR2 := Lib.hid ((HR1.out.other (p := ⟨T, 0, none⟩) hRT (.string (bs kk))).kp hk (by simp)); clear hk; obtain ⟨d20, d21, d22, d23⟩ := HT2.out.cells; obtain ⟨e20, e21, e22, e23⟩ := HR2.out.cells; have df2 := fun o => HT2.out.frz (o := o); have ef2 := fun o => HR2.out.frz (o := o))
                  | (go_at_call 58; refine Calls.mono (by with_reducible exact H8.out _) ?_; rintro r w3 ⟨rfl, hk⟩; have HK3 := Lib.hid ((HK2.out.setCell (p := ⟨T, 1, none⟩) (.inr hTw) (.string (bs nn))).trans hk); have HT3 := Lib.hid ((HT2.out.put1 nn).kp hk (by simp)); have HR3 := Lib.hid ((HR2.out.other (p := ⟨T, 1, none⟩) hRT (.string (bs nn))).kp hk (by simp)); clear hk; obtain ⟨d30, d31, d32, d33⟩ := HT3.out.cells; obtain ⟨e30, e31, e32, e33⟩ := HR3.out.cells; have df3 := fun o => HT3.out.frz (o := o); have ef3 := fun o => HR3.out.frz (o := o))
                  | (go_at_call 59; refine Calls.mono (by with_reducible exact HQ.out _) ?_; rintro r w9 ⟨rfl, rfl⟩)
                  | (go_at_call 60; refine Calls.mono (by with_reducible exact HO.out _) ?_; rintro r w9 ⟨rfl, rfl⟩))
                refine beg_end (TAt.all (HR3.out.other (p := ⟨T, 2, none⟩) hRT (.string (bs oo))) tok0) rfl rfl rfl rfl ⟨rfl, ?_⟩
                exact (((((HK3.out.setCell (.inr hTw) _).setCell (.inr hRw) _).setCell (.inr hRw) _).setCell (.inr hRw) _).setCell (.inr hRw) _)
              | true =>
                rw [hoo] at HO
                clear hoo
                go_enter Tryd.func33, Tryd.ntmps33
                go_wp2_with (first
                  | (go_at_call 58; refine Calls.mono (by with_reducible exact H2.out _) ?_; rintro r w1 ⟨rfl, hk⟩; have HK1 := Lib.hid ((HK.out).trans hk); have HT1 := Lib.hid ((HT.out).kp hk (by simp)); have HR1 := Lib.hid ((HR.out).kp hk (by simp)); clear hk; obtain ⟨d10, d11, d12, d13⟩ := HT1.out.cells; obtain ⟨e10, e11, e12, e13⟩ := HR1.out.cells; have df1 := fun o => HT1.out.frz (o := o); have ef1 := fun o => HR1.out.frz (o := o))
                  | (go_at_call 59; refine Calls.mono (by with_reducible exact HC.out _) ?_; rintro r w9 ⟨rfl, rfl⟩)
                  | (go_at_call 58; refine Calls.mono (by with_reducible exact H4.out _) ?_; rintro r w2 ⟨rfl, hk⟩; have HK2 := Lib.hid ((HK1.out.setCell (p := ⟨T, 0, none⟩) (.inr hTw) (.string (bs kk))).trans hk); have HT2 := Lib.hid ((HT1.out.put0 kk).kp hk (by simp)); have HR2 := Lib.hid ((HR1.out.other (p := ⟨T, 0, none⟩) hRT (.string (bs kk))).kp hk (by simp)); clear hk; obtain ⟨d20, d21, d22, d23⟩ := HT2.out.cells; obtain ⟨e20, e21, e22, e23⟩ := HR2.out.cells; have df2 := fun o => HT2.out.frz (o := o); have ef2 := fun o => HR2.out.frz (o := o))
                  | (go_at_call 58; refine Calls.mono (by with_reducible exact H8.out _) ?_; rintro r w3 ⟨rfl, hk⟩; have HK3 := Lib.hid ((HK2.out.setCell (p := ⟨T, 1, none⟩) (.inr hTw) (.string (bs nn))).trans hk); have HT3 := Lib.hid ((HT2.out.put1 nn).kp hk (by simp)); have HR3 := Lib.hid ((HR2.out.other (p := ⟨T, 1, none⟩) hRT (.string (bs nn))).kp hk (by simp)); clear hk; obtain ⟨d30, d31, d32, d33⟩ := HT3.out.cells; obtain ⟨e30, e31, e32, e33⟩ := HR3.out.cells; have df3 := fun o => HT3.out.frz (o := o); have ef3 := fun o => HR3.out.frz (o := o))
                  | (go_at_call 59; refine Calls.mono (by with_reducible exact HQ.out _) ?_; rintro r w9 ⟨rfl, rfl⟩)
                  | (go_at_call 60; refine Calls.mono (by with_reducible exact HO.out _) ?_; rintro r w9 ⟨rfl, rfl⟩))
                refine beg_end (TAt.all (HR3.out.other (p := ⟨T, 2, none⟩) hRT (.string (bs oo))) tok0) rfl rfl rfl rfl ⟨rfl, ?_⟩
                exact (((((HK3.out.setCell (.inr hTw) _).setCell (.inr hRw) _).setCell (.inr hRw) _).setCell (.inr hRw) _).setCell (.inr hRw) _)
          · have hcn : ((c.toNat : Int) != 125) = true := by
              simp only [bne_iff_ne, ne_eq]
              intro h
              exact hc (UInt8.toNat_inj.1 (by have : (125 : UInt8).toNat = 125 := rfl; omega))
            rw [if_pos (.inr hc)] at hbe
            rw [hbe]
            clear hbe hc
            go_enter Tryd.func33, Tryd.ntmps33
            go_wp2_with (first
              | (go_at_call 58; refine Calls.mono (by with_reducible exact H2.out _) ?_; rintro r w1 ⟨rfl, hk⟩; have HK1 := Lib.hid ((HK.out).trans hk); have HT1 := Lib.hid ((HT.out).kp hk (by simp)); have HR1 := Lib.hid ((HR.out).kp hk (by simp)); clear hk; obtain ⟨d10, d11, d12, d13⟩ := HT1.out.cells; obtain ⟨e10, e11, e12, e13⟩ := HR1.out.cells; have df1 := fun o => HT1.out.frz (o := o); have ef1 := fun o => HR1.out.frz (o := o))
              | (go_at_call 59; refine Calls.mono (by with_reducible exact HC.out _) ?_; rintro r w9 ⟨rfl, rfl⟩)
              | (go_at_call 58; refine Calls.mono (by with_reducible exact H4.out _) ?_; rintro r w2 ⟨rfl, hk⟩; have HK2 := Lib.hid ((HK1.out.setCell (p := ⟨T, 0, none⟩) (.inr hTw) (.string (bs kk))).trans hk); have HT2 := Lib.hid ((HT1.out.put0 kk).kp hk (by simp)); have HR2 := Lib.hid ((HR1.out.other (p := ⟨T, 0, none⟩) hRT (.string (bs kk))).kp hk (by simp)); clear hk; obtain ⟨d20, d21, d22, d23⟩ := HT2.out.cells; obtain ⟨e20, e21, e22, e23⟩ := HR2.out.cells; have df2 := fun o => HT2.out.frz (o := o); have ef2 := fun o => HR2.out.frz (o := o)))
            refine beg_end (TAt.all (HR2.out.other (p := ⟨T, 1, none⟩) hRT (.string (bs nn))) tok0) rfl rfl rfl rfl ⟨rfl, ?_⟩
            exact (((((HK2.out.setCell (.inr hTw) _).setCell (.inr hRw) _).setCell (.inr hRw) _).setCell (.inr hRw) _).setCell (.inr hRw) _)
    · have hbr2 : ∀ r, r1 ≠ 123 :: r := fun r h => hbr ⟨r, h⟩
      rw [begM_plain hbr2] at hbe
      have HC := Lib.hid fun W => cutp_no 123 r1 W hbr2
      have H8 := Lib.hid fun W => take8 r1 W
      clear hbr hbr2
      obtain ⟨oo, r3, hso⟩ : ∃ oo r3, spanL opCh r1 = (oo, r3) := ⟨_, _, rfl⟩
      rw [hso] at H8
      simp only at H8
      have HO := Lib.hid fun W => isOp_any oo W
      by_cases hq : ∃ r, r3 = 34 :: r
      · obtain ⟨r, rfl⟩ := hq
        have HQ := Lib.hid fun W => cutp_yes 34 r W
        cases hoo : opsL.contains oo with
        | false =>
          rw [hoo] at HO
          rw [begO_bad hso hoo] at hbe
          rw [hbe]
          clear hbe hso hoo
          go_enter Tryd.func33, Tryd.ntmps33
          go_wp2_with (first
            | (go_at_call 58; refine Calls.mono (by with_reducible exact H2.out _) ?_; rintro r w1 ⟨rfl, hk⟩; have HK1 := Lib.hid ((HK.out).trans hk); have HT1 := Lib.hid ((HT.out).kp hk (by simp)); have HR1 := Lib.hid ((HR.out).kp hk (by simp)); clear hk; obtain ⟨d10, d11, d12, d13⟩ := HT1.out.cells; obtain ⟨e10, e11, e12, e13⟩ := HR1.out.cells; have df1 := fun o => HT1.out.frz (o := o); have ef1 := fun o => HR1.out.frz (o := o))
            | (go_at_call 59; refine Calls.mono (by with_reducible exact HC.out _) ?_; rintro r w9 ⟨rfl, rfl⟩)
            | (go_at_call 58; refine Calls.mono (by with_reducible exact H8.out _) ?_; rintro r w3 ⟨rfl, hk⟩; have HK3 := Lib.hid ((HK1.out.setCell (p := ⟨T, 0, none⟩) (.inr hTw) (.string (bs kk))).trans hk); have HT3 := Lib.hid ((HT1.out.put0 kk).kp hk (by simp)); have HR3 := Lib.hid ((HR1.out.other (p := ⟨T, 0, none⟩) hRT (.string (bs kk))).kp hk (by simp)); clear hk; obtain ⟨d30, d31, d32, d33⟩ := HT3.out.cells; obtain ⟨e30, e31, e32, e33⟩ := HR3.out.cells; have df3 := fun o => HT3.out.frz (o := o); have ef3 := fun o => HR3.out.frz (o := o))
            | (go_at_call 59; refine Calls.mono (by with_reducible exact HQ.out _) ?_; rintro r w9 ⟨rfl, rfl⟩)
            | (go_at_call 60; refine Calls.mono (by with_reducible exact HO.out _) ?_; rintro r w9 ⟨rfl, rfl⟩))
          refine beg_end (TAt.all (HR3.out.other (p := ⟨T, 2, none⟩) hRT (.string (bs oo))) tok0) rfl rfl rfl rfl ⟨rfl, ?_⟩
          exact (((((HK3.out.setCell (.inr hTw) _).setCell (.inr hRw) _).setCell (.inr hRw) _).setCell (.inr hRw) _).setCell (.inr hRw) _)
        | true =>
          rw [hoo] at HO
          rw [begO_ok hso hoo] at hbe
          rw [hbe]
          clear hbe hso hoo
          go_enter Tryd.func33, Tryd.ntmps33
          go_wp2_with (first
            | (go_at_call 58; refine Calls.mono (by with_reducible exact H2.out _) ?_; rintro r w1 ⟨rfl, hk⟩; have HK1 := Lib.hid ((HK.out).trans hk); have HT1 := Lib.hid ((HT.out).kp hk (by simp)); have HR1 := Lib.hid ((HR.out).kp hk (by simp)); clear hk; obtain ⟨d10, d11, d12, d13⟩ := HT1.out.cells; obtain ⟨e10, e11, e12, e13⟩ := HR1.out.cells; have df1 := fun o => HT1.out.frz (o := o); have ef1 := fun o => HR1.out.frz (o := o))
            | (go_at_call 59; refine Calls.mono (by with_reducible exact HC.out _) ?_; rintro r w9 ⟨rfl, rfl⟩)
            | (go_at_call 58; refine Calls.mono (by with_reducible exact H8.out _) ?_; rintro r w3 ⟨rfl, hk⟩; have HK3 := Lib.hid ((HK1.out.setCell (p := ⟨T, 0, none⟩) (.inr hTw) (.string (bs kk))).trans hk); have HT3 := Lib.hid ((HT1.out.put0 kk).kp hk (by simp)); have HR3 := Lib.hid ((HR1.out.other (p := ⟨T, 0, none⟩) hRT (.string (bs kk))).kp hk (by simp)); clear hk; obtain ⟨d30, d31, d32, d33⟩ := HT3.out.cells; obtain ⟨e30, e31, e32, e33⟩ := HR3.out.cells; have df3 := fun o => HT3.out.frz (o := o); have ef3 := fun o => HR3.out.frz (o := o))
            | (go_at_call 59; refine Calls.mono (by with_reducible exact HQ.out _) ?_; rintro r w9 ⟨rfl, rfl⟩)
            | (go_at_call 60; refine Calls.mono (by with_reducible exact HO.out _) ?_; rintro r w9 ⟨rfl, rfl⟩))
          refine beg_end (TAt.all (HR3.out.other (p := ⟨T, 2, none⟩) hRT (.string (bs oo))) ⟨kk, [], oo, []⟩) rfl rfl rfl rfl ⟨rfl, ?_⟩
          exact (((((HK3.out.setCell (.inr hTw) _).setCell (.inr hRw) _).setCell (.inr hRw) _).setCell (.inr hRw) _).setCell (.inr hRw) _)
      · have hq2 : ∀ r, r3 ≠ 34 :: r := fun r h => hq ⟨r, h⟩
        have HQ := Lib.hid fun W => cutp_no 34 r3 W hq2
        rw [begO_no hso hq2] at hbe
        rw [hbe]
        clear hbe hso hq hq2
        cases hoo : opsL.contains oo with
        | false =>
          rw [hoo] at HO
          clear hoo
          go_enter Tryd.func33, Tryd.ntmps33
          go_wp2_with (first
            | (go_at_call 58; refine Calls.mono (by with_reducible exact H2.out _) ?_; rintro r w1 ⟨rfl, hk⟩; have HK1 := Lib.hid ((HK.out).trans hk); have HT1 := Lib.hid ((HT.out).kp hk (by simp)); have HR1 := Lib.hid ((HR.out).kp hk (by simp)); clear hk; obtain ⟨d10, d11, d12, d13⟩ := HT1.out.cells; obtain ⟨e10, e11, e12, e13⟩ := HR1.out.cells; have df1 := fun o => HT1.out.frz (o := o); have ef1 := fun o => HR1.out.frz (o := o))
            | (go_at_call 59; refine Calls.mono (by with_reducible exact HC.out _) ?_; rintro r w9 ⟨rfl, rfl⟩)
            | (go_at_call 58; refine Calls.mono (by with_reducible exact H8.out _) ?_; rintro r w3 ⟨rfl, hk⟩; have HK3 := Lib.hid ((HK1.out.setCell (p := ⟨T, 0, none⟩) (.inr hTw) (.string (bs kk))).trans hk); have HT3 := Lib.hid ((HT1.out.put0 kk).kp hk (by simp)); have HR3 := Lib.hid ((HR1.out.other (p := ⟨T, 0, none⟩) hRT (.string (bs kk))).kp hk (by simp)); clear hk; obtain ⟨d30, d31, d32, d33⟩ := HT3.out.cells; obtain ⟨e30, e31, e32, e33⟩ := HR3.out.cells; have df3 := fun o => HT3.out.frz (o := o); have ef3 := fun o => HR3.out.frz (o := o))
            | (go_at_call 59; refine Calls.mono (by with_reducible exact HQ.out _) ?_; rintro r w9 ⟨rfl, rfl⟩)
            | (go_at_call 60; refine Calls.mono (by with_reducible exact HO.out _) ?_; rintro r w9 ⟨rfl, rfl⟩))
          refine beg_end (TAt.all (HR3.out.other (p := ⟨T, 2, none⟩) hRT (.string (bs oo))) tok0) rfl rfl rfl rfl ⟨rfl, ?_⟩
          exact (((((HK3.out.setCell (.inr hTw) _).setCell (.inr hRw) _).setCell (.inr hRw) _).setCell (.inr hRw) _).setCell (.inr hRw) _)
        | true =>
          rw [hoo] at HO
          clear hoo
          go_enter Tryd.func33, Tryd.ntmps33
          go_wp2_with (first
            | (go_at_call 58; refine Calls.mono (by with_reducible exact H2.out _) ?_; rintro r w1 ⟨rfl, hk⟩; have HK1 := Lib.hid ((HK.out).trans hk); have HT1 := Lib.hid ((HT.out).kp hk (by simp)); have HR1 := Lib.hid ((HR.out).kp hk (by simp)); clear hk; obtain ⟨d10, d11, d12, d13⟩ := HT1.out.cells; obtain ⟨e10, e11, e12, e13⟩ := HR1.out.cells; have df1 := fun o => HT1.out.frz (o := o); have ef1 := fun o => HR1.out.frz (o := o))
            | (go_at_call 59; refine Calls.mono (by with_reducible exact HC.out _) ?_; rintro r w9 ⟨rfl, rfl⟩)
            | (go_at_call 58; refine Calls.mono (by with_reducible exact H8.out _) ?_; rintro r w3 ⟨rfl, hk⟩; have HK3 := Lib.hid ((HK1.out.setCell (p := ⟨T, 0, none⟩) (.inr hTw) (.string (bs kk))).trans hk); have HT3 := Lib.hid ((HT1.out.put0 kk).kp hk (by simp)); have HR3 := Lib.hid ((HR1.out.other (p := ⟨T, 0, none⟩) hRT (.string (bs kk))).kp hk (by simp)); clear hk; obtain ⟨d30, d31, d32, d33⟩ := HT3.out.cells; obtain ⟨e30, e31, e32, e33⟩ := HR3.out.cells; have df3 := fun o => HT3.out.frz (o := o); have ef3 := fun o => HR3.out.frz (o := o))
            | (go_at_call 59; refine Calls.mono (by with_reducible exact HQ.out _) ?_; rintro r w9 ⟨rfl, rfl⟩)
            | (go_at_call 60; refine Calls.mono (by with_reducible exact HO.out _) ?_; rintro r w9 ⟨rfl, rfl⟩))
          refine beg_end (TAt.all (HR3.out.other (p := ⟨T, 2, none⟩) hRT (.string (bs oo))) tok0) rfl rfl rfl rfl ⟨rfl, ?_⟩
          exact (((((HK3.out.setCell (.inr hTw) _).setCell (.inr hRw) _).setCell (.inr hRw) _).setCell (.inr hRw) _).setCell (.inr hRw) _)
end Go.Proofs.YtccmlodocfpbhaaDoor
