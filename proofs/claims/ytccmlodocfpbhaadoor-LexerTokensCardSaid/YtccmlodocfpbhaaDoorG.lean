/- Tokens. -/
import Derived.Test.YtccmlodocfpbhaaDoorE
import Derived.Test.YtccmlodocfpbhaaDoorF
import Derived.WalkMore
import Derived.Deep.LoopGhost
namespace Go.Proofs.YtccmlodocfpbhaaDoor
open Go.RowKit

/-- The tokens of a line, and the error's number. -/
def tokensE (s : List UInt8) : List Tok × Nat :=
  if 1024 < s.length then ([], 81) else if s.all lnCh = false then ([], 80) else
  match tokensL s with | .bad => ([], 82) | .cut => ([], 83) | .ok l _ => (l, 0)
def preT (xs : List Tok) : Rd (List Tok) → Rd (List Tok)
  | .bad => .bad
  | .cut => .cut
  | .ok l q => .ok (xs ++ l) q
theorem preT_nil (x : Rd (List Tok)) : preT [] x = x := by cases x <;> rfl
theorem preT_app (a b : List Tok) (x : Rd (List Tok)) : preT a (preT b x) = preT (a ++ b) x := by cases x <;> simp [preT]
theorem tokensF_begL (f : Nat) {s : List UInt8} (hs : s ≠ []) : tokensF (f + 1) s = match begL s with
    | .bad => .bad
    | .cut => .cut
    | .ok t body => match scanV false body with
      | .bad => .bad
      | .cut => .cut
      | .ok raw q => if q ≠ [] ∧ trimL q = q then .bad else preT [{ t with val := unescL raw }] (tokensF f (trimL q)) := by
  rw [tokensF, if_neg hs, tokenL_beg]
  cases begL s with
  | bad => rfl
  | cut => rfl
  | ok t body =>
    simp only
    cases scanV false body with
    | bad => rfl
    | cut => rfl
    | ok raw q =>
      simp only [Rd.map]
      split
      · rfl
      · cases tokensF f (trimL q) <;> rfl
theorem scanV_step (esc : Bool) (b : UInt8) (r : List UInt8) (h1 : ¬(b = 34 ∧ esc = false)) (h2 : b ≠ 9) : scanV esc (b :: r) = (scanV (b == 92) r).map (b :: ·) := by
  rw [scanV, if_neg h1, if_neg h2]
  cases scanV (b == 92) r <;> rfl
theorem Rd.map_map {α β γ : Type} (f : α → β) (g : β → γ) (x : Rd α) : (x.map f).map g = x.map (fun a => g (f a)) := by cases x <;> rfl
theorem scan_next {body : List UInt8} {pos : Nat} {x : UInt8} {esc : Bool} (hx : body[pos]? = some x) (h : scanV false body = (scanV esc (body.drop pos)).map (body.take pos ++ ·)) (h1 : ¬(x = 34 ∧ esc = false)) (h2 : x ≠ 9) :
    scanV false body = (scanV (x == 92) (body.drop (pos + 1))).map (body.take (pos + 1) ++ ·) := by
  have hlt := (List.getElem?_eq_some_iff.1 hx).1
  have hd : body.drop pos = x :: body.drop (pos + 1) := by
    rw [List.drop_eq_getElem_cons hlt]
    rw [(List.getElem?_eq_some_iff.1 hx).2]
  rw [h, hd, scanV_step esc x _ h1 h2, Rd.map_map]
  congr 1
  funext a
  rw [List.take_add_one, hx]
  simp
theorem scan_quote {body : List UInt8} {pos : Nat} {esc : Bool} (hx : body[pos]? = some 34) (h : scanV false body = (scanV esc (body.drop pos)).map (body.take pos ++ ·)) (h1 : esc = false) :
    scanV false body = .ok (body.take pos) (body.drop (pos + 1)) := by
  have hlt := (List.getElem?_eq_some_iff.1 hx).1
  have hd : body.drop pos = 34 :: body.drop (pos + 1) := by
    rw [List.drop_eq_getElem_cons hlt, (List.getElem?_eq_some_iff.1 hx).2]
  rw [h, hd, h1]
  simp [scanV, Rd.map]
theorem scan_tab {body : List UInt8} {pos : Nat} {esc : Bool} (hx : body[pos]? = some 9) (h : scanV false body = (scanV esc (body.drop pos)).map (body.take pos ++ ·)) : scanV false body = .bad := by
  have hlt := (List.getElem?_eq_some_iff.1 hx).1
  have hd : body.drop pos = 9 :: body.drop (pos + 1) := by
    rw [List.drop_eq_getElem_cons hlt, (List.getElem?_eq_some_iff.1 hx).2]
  rw [h, hd, scanV, if_neg (by simp), if_pos rfl]
  rfl
theorem scan_end {body : List UInt8} {esc : Bool} {pos : Nat} (hp : body.length ≤ pos) (h : scanV false body = (scanV esc (body.drop pos)).map (body.take pos ++ ·)) : scanV false body = .cut := by
  rw [h, List.drop_of_length_le hp, scanV]
  rfl
theorem trim_led (q : List UInt8) : q.drop (ledL 32 q) = trimL q := by
  unfold ledL trimL
  rw [inC_sep]
  induction q with
  | nil => rfl
  | cons b q ih =>
    rw [List.takeWhile_cons, List.dropWhile_cons]
    split <;> simp_all
theorem led_zero {q : List UInt8} : ledL 32 q = 0 ↔ trimL q = q := by
  rw [← trim_led]
  constructor
  · intro h
    rw [h, List.drop_zero]
  · intro h
    have := congrArg List.length h
    rw [List.length_drop] at this
    have h2 := takeWhile_le (inC 32) q
    unfold ledL at *
    cases q with
    | nil => rfl
    | cons b q =>
      rw [List.length_cons] at this h2
      omega
theorem begL_body {s body : List UInt8} {t : Tok} (h : begL s = .ok t body) : ∃ p, s = p ++ body ∧ p ≠ [] := by
  obtain ⟨e1, _, _⟩ := spanL_eq upCh s
  have hb : ∀ {k n x : List UInt8} {t' : Tok}, begO k n x = .ok t' body → ∃ p, x = p ++ body := fun {k n x t'} h => by
    obtain ⟨g1, _, _⟩ := spanL_eq opCh x
    have h2 := begO_at (k := k) (n := n) (x := x) (oo := (spanL opCh x).1) (r3 := (spanL opCh x).2) rfl
    rw [h] at h2
    split at h2
    · unfold opM at h2
      split at h2
      · rename_i r hr
        cases h2
        exact ⟨(spanL opCh x).1 ++ [34], by rw [List.append_assoc, List.cons_append, List.nil_append, ← hr, g1]⟩
      · cases h2
    · cases h2
  have h1 := begL_at (s := s) (kk := (spanL upCh s).1) (r1 := (spanL upCh s).2) rfl
  rw [h] at h1
  split at h1
  · cases h1
  · rename_i hk
    have fin : ∀ y, (spanL upCh s).2 = y ++ body → ∃ p, s = p ++ body ∧ p ≠ [] := fun y hy => ⟨(spanL upCh s).1 ++ y, by rw [List.append_assoc, ← hy, e1], fun e => hk (List.append_eq_nil_iff.1 e).1⟩
    unfold begM at h1
    split at h1
    · rename_i s1 hs1
      obtain ⟨g2, _, _⟩ := spanL_eq nmCh s1
      split at h1
      · cases h1
      · rename_i c s2 hs2
        split at h1
        · cases h1
        · obtain ⟨p, hp⟩ := hb h1.symm
          refine fin (123 :: ((spanL nmCh s1).1 ++ c :: p)) ?_
          rw [hs1, List.cons_append, List.append_assoc, List.cons_append, ← hp, ← hs2, g2]
    · obtain ⟨p, hp⟩ := hb h1.symm
      exact fin p hp
theorem lead32 (l : List UInt8) (w : World) : Calls Tryd.prog 32 #[.string (bs l), .int .i64 32] w fun r w' => r = .returned (.int .i64 (ledL 32 l : Int)) ∧ Kp [] w w' := by
  have h := leading_any (bs l) 32 w (by decide)
  rw [bs_data] at h
  exact h
theorem u8_eq (a b : UInt8) : ((a.toNat : Int) == (b.toNat : Int)) = (a == b) := by
  rw [Bool.eq_iff_iff]; simp only [beq_iff_eq, ← UInt8.toNat_inj]; omega
theorem lnCh_lt {x : UInt8} (h : lnCh x = true) : x.toNat < 128 := by
  have := forall_u8 (p := fun x => !lnCh x || decide (x.toNat < 128)) (by decide +kernel) x
  simp [h] at this
  exact this
theorem lnCh_pr {x : UInt8} (h : lnCh x = true) (h9 : x ≠ 9) : prCh x = true := by
  unfold lnCh at h
  simp only [Bool.or_eq_true, beq_iff_eq] at h
  exact h.resolve_right h9
theorem bits16 (x : UInt8) : (bits BinOp.and IntKind.i64 (clsN x.toNat : Int) 16 == 0) = !prCh x := by
  have h := bits_inC (b := x) (c := 16) (by decide)
  rw [inC_val] at h
  exact h
theorem class9 (w : World) : Calls Tryd.prog 35 #[.int .i32 9] w fun r w' => r = .returned (.int .i64 33) ∧ w = w' := classOf_any 9 w
theorem class34 (w : World) : Calls Tryd.prog 35 #[.int .i32 34] w fun r w' => r = .returned (.int .i64 17) ∧ w = w' := classOf_any 34 w
theorem bits9 : (bits BinOp.and IntKind.i64 33 16 == 0) = true := by decide +kernel
theorem bits34 : (bits BinOp.and IntKind.i64 17 16 == 0) = false := by decide +kernel
/-- A token behind an own row of tokens: the worlds up to the append. -/
theorem tok_push {w W W7 : World} {tb Nb : Nat} {x : Tok} {v : Value} {xs : List Tok} (hk : Kp [] w W) (ho : tokT.Own W w.heap.size v xs) (ht : w.heap.size ≤ tb) (hv : ∀ b, v.ownBlock = some b → b ≠ tb) (hN : W.heap.size = Nb)
    (hW : (W.setCell ⟨tb, 3, none⟩ (.string (bs x.val))).alloc (.cells (tokC x) 43) = W7) : Kp [] w W7 ∧ tokT.Own W7 w.heap.size v xs ∧ W7.rangeAt Nb 0 (tokT.cf x) := by
  have hs : (W.setCell ⟨tb, 3, none⟩ (.string (bs x.val))).heap.size = Nb := by rw [← hN]; simp [World.setCell]
  have hk1 : Kp [] (W.setCell ⟨tb, 3, none⟩ (.string (bs x.val))) W7 := by rw [← hW]; exact (Kp.refl [] _).alloc _
  refine ⟨(hk.setCell (.inr ht) _).trans hk1, (ho.set (p := ⟨tb, 3, none⟩) hv _).kp0 hk1, ?_⟩
  have h := heap_alloc_last (W.setCell ⟨tb, 3, none⟩ (.string (bs x.val))) (.cells (tokC x) 43)
  rw [hW, hs] at h
  exact TAt.range h
theorem trimL_le (s : List UInt8) : (trimL s).length ≤ s.length := (List.dropWhile_sublist _).length_le
theorem trimL_all {s : List UInt8} (h : s.all lnCh = true) : (trimL s).all lnCh = true := List.all_eq_true.2 fun b hb => List.all_eq_true.1 h b ((List.dropWhile_sublist _).mem hb)
theorem kp_grown {w W w' : World} {v : Value} (h : Kp [] w W) (g : W.grownBy w' v.ownBlock) (hv : ∀ b, v.ownBlock = some b → w.heap.size ≤ b) : Kp [] w w' := by
  cases hb : v.ownBlock with
  | none =>
    rw [hb] at g
    exact h.trans (Kp.of_grown_none g)
  | some b =>
    rw [hb] at g
    exact h.up (Kp.of_grown g) (by intro x hx; simp at hx; subst hx; exact .inr (hv x hb))

set_option maxHeartbeats 8000000 in
set_option maxRecDepth 100000 in
theorem tokens_any (s : List UInt8) (w : World) (hm : Max w) (hl : s.length ≤ 1000000000) : Calls Tryd.prog 15 #[.string (bs s)] w fun r w' => ∃ v, r = .returned (.tuple #[v, .int .i64 ((tokensE s).2 : Int)]) ∧ tokT.Own w' w.heap.size v (tokensE s).1 ∧ Kp [] w w' := by
  by_cases h1 : 1024 < s.length
  · have hE : tokensE s = ([], 81) := if_pos h1
    have hz : (1024 : Int) < ((bs s).size : Int) := by rw [bs_size]; omega
    rw [hE]
    clear hE h1
    go_enter Tryd.func15, Tryd.ntmps15
    go_wp2
    go_step3
    go_wp2
    try rw [Exit.noGoto_ret]
    go_ret2
    exact ⟨_, rfl, RT.Own.nil _ _ _, Kp.refl _ _⟩
  · have hz : ¬ (1024 : Int) < ((bs s).size : Int) := by rw [bs_size]; omega
    have H1 := Lib.hid fun W => cons1 s W
    cases hall : s.all lnCh with
    | false =>
      have hE : tokensE s = ([], 80) := by unfold tokensE; rw [if_neg h1, if_pos hall]
      rw [hE]
      rw [hall] at H1
      clear hE h1 hall
      go_enter Tryd.func15, Tryd.ntmps15
      go_wp2
      go_step3
      go_wp2_with (go_at_call 31; refine Calls.mono (by with_reducible exact H1.out _) ?_; rintro r w1 ⟨rfl, hk⟩)
      try rw [Exit.noGoto_ret]
      go_ret2
      exact ⟨_, rfl, RT.Own.nil _ _ _, hk⟩
    | true =>
      have hE : tokensE s = match tokensL s with | .bad => ([], 82) | .cut => ([], 83) | .ok l _ => (l, 0) := by unfold tokensE; rw [if_neg h1, if_neg (by rw [hall]; simp)]
      rw [hall] at H1
      have HE := Lib.hid hE
      have H32 := Lib.hid fun W => lead32 s W
      have hle := takeWhile_le (inC 32) s
      have hn : (ledL 32 s : Int) ≤ ((bs s).size : Int) := by rw [bs_size]; unfold ledL; omega
      have hn2 : ledL 32 s ≤ (bs s).size := by rw [bs_size]; exact hle
      have hex : (bs s).extract (ledL 32 s) (bs s).size = bs (trimL s) := by rw [bs_drop, trim_led]
      have HX := Lib.hid hex
      have HALL := Lib.hid hall
      have HLE := Lib.hid (show s.length ≤ 1024 by omega)
      clear hE hle hex hall h1
      generalize ledL 32 s = nn at *
      go_enter Tryd.func15, Tryd.ntmps15
      go_wp2
      go_step3
      go_wp2_with (first
        | (go_at_call 31; refine Calls.mono (by with_reducible exact H1.out _) ?_; rintro r w1 ⟨rfl, hk⟩; have HK1 := Lib.hid hk; clear hk)
        | (go_at_call 32; refine Calls.mono (by with_reducible exact H32.out _) ?_; rintro r w2 ⟨rfl, hk⟩; have HK2 := Lib.hid (HK1.out.trans hk); clear hk))
      rw [HX.out]
      go_step3
      go_wp2
      go_loopg [4, 5] s.length (fun g s4 s5 wx => ∃ v xs rest f, v = s4 ∧ s5 = .string (bs rest) ∧ tokT.Own wx w.heap.size v xs ∧ Kp [] w wx ∧ rest.all lnCh = true ∧ rest.length ≤ g ∧ xs.length + rest.length ≤ 1024 ∧ rest.length < f ∧ tokensL s = preT xs (tokensF f rest))
      case atStart =>
        have h1 := trimL_le s
        have h2 := HLE.out
        refine ⟨_, [], trimL s, s.length + 1, rfl, rfl, RT.Own.nil _ _ _, HK2.out, trimL_all HALL.out, h1, by simp; omega, by omega, ?_⟩
        rw [preT_nil]
        rfl
      case round =>
        obtain ⟨v, xs, rest, f, rfl, rfl, hown, hkx, hra, hrg, hxr, hrf, htk⟩ := hrel
        have HO := Lib.hid hown
        have HKX := Lib.hid hkx
        by_cases hre : rest = []
        · subst hre
          have he0 : (bs []).toList.isEmpty = true := bs_isEmpty []
          have hE := HE.out
          rw [htk, show tokensF f [] = .ok [] [] by cases f with | zero => simp at hrf | succ f => rfl] at hE
          simp only [preT, List.append_nil] at hE
          have HE2 := Lib.hid hE
          clear hE hown hkx hra hrg hxr hrf htk
          go_wp2
          try rw [Exit.noGoto_ret]
          go_ret2
          rw [HE2.out]
          exact ⟨_, rfl, HO.out, HKX.out⟩
        · have hne : (bs rest).toList.isEmpty = false := by
            rw [bs_isEmpty]
            cases rest with
            | nil => exact absurd rfl hre
            | cons _ _ => rfl
          obtain ⟨f', rfl⟩ : ∃ f', f = f' + 1 := ⟨f - 1, by omega⟩
          have htb := tokensF_begL f' hre
          rw [htb] at htk
          have HB := begin_any rest wr
          cases hb : begL rest with
          | bad =>
            rw [hb] at htk HB
            simp only [preT] at htk
            have HB2 := Lib.hid HB
            have hE := HE.out
            rw [htk] at hE
            simp only at hE
            have HE2 := Lib.hid hE
            unfold begV tokC at HB2
            clear hE HB htk htb hb hown hkx hra hrg hxr hrf hre
            go_wp2_with (go_at_call 33; refine Calls.mono (by with_reducible exact HB2.out) ?_; rintro r w3 ⟨rfl, hk⟩; have HK3 := Lib.hid (HKX.out.trans hk); clear hk)
            try rw [Exit.noGoto_ret]
            go_ret2
            rw [HE2.out]
            exact ⟨_, rfl, RT.Own.nil _ _ _, HK3.out.alloc _⟩
          | cut =>
            rw [hb] at htk HB
            simp only [preT] at htk
            have HB2 := Lib.hid HB
            have hE := HE.out
            rw [htk] at hE
            simp only at hE
            have HE2 := Lib.hid hE
            unfold begV tokC at HB2
            clear hE HB htk htb hb hown hkx hra hrg hxr hrf hre
            go_wp2_with (go_at_call 33; refine Calls.mono (by with_reducible exact HB2.out) ?_; rintro r w3 ⟨rfl, hk⟩; have HK3 := Lib.hid (HKX.out.trans hk); clear hk)
            try rw [Exit.noGoto_ret]
            go_ret2
            rw [HE2.out]
            exact ⟨_, rfl, RT.Own.nil _ _ _, HK3.out.alloc _⟩
          | ok t body =>
            rw [hb] at htk HB
            simp only at htk
            obtain ⟨pp, hpp, hpn⟩ := begL_body hb
            have hba : body.all lnCh = true := all_suffix hra hpp.symm
            have hbl : body.length < rest.length := by
              rw [hpp, List.length_append]
              have := List.length_pos_iff.2 hpn
              omega
            have HB2 := Lib.hid HB
            unfold begV tokC at HB2
            have HTK := Lib.hid htk
            have HBA := Lib.hid hba
            have HBL := Lib.hid (show body.length < rest.length ∧ rest.length ≤ gk ∧ xs.length + rest.length ≤ 1024 ∧ rest.length < f' + 1 from ⟨hbl, hrg, hxr, hrf⟩)
            obtain ⟨g, rfl⟩ : ∃ g, gk = g + 1 := ⟨gk - 1, by omega⟩
            clear HB htk htb hb hown hkx hra hrg hxr hrf hre hba hbl hpp hpn
            go_wp2_with (go_at_call 33; refine Calls.mono (by with_reducible exact HB2.out) ?_; rintro r w3 ⟨rfl, hk⟩; have HK3 := Lib.hid (HKX.out.trans hk); have HO3 := Lib.hid (HO.out.kp0 hk); clear hk; obtain ⟨tb, htb⟩ : ∃ tb, w3.heap.size = tb := ⟨_, rfl⟩; obtain ⟨wb, hwb⟩ : ∃ wb, w3.alloc (.cells #[.string (bs t.key), .string (bs t.name), .string (bs t.op), .string (bs t.val)] 43) = wb := ⟨_, rfl⟩)
            have hTb : TAt wb tb t := by
              rw [← hwb, ← htb]
              exact heap_alloc_last w3 _
            have hkb : Kp [] w3 wb := by rw [← hwb]; exact (Kp.refl [] w3).alloc _
            have htw : w.heap.size ≤ tb := by rw [← htb]; exact HK3.out.size
            have hOb : ∀ b, v.ownBlock = some b → b ≠ tb := fun b hb => by
              have := (HO3.out.ge b hb).2
              omega
            have HTb := Lib.hid hTb
            have HKb := Lib.hid (HK3.out.trans hkb)
            have HOb := Lib.hid (HO3.out.kp0 hkb)
            have HOt := Lib.hid hOb
            clear hTb hkb hOb hwb htb
            have hbs : (bs body).size = body.length := bs_size _
            go_loopg [4, 9] body.length (fun g2 s4 s9 wx => ∃ pos esc, pos + g2 = body.length ∧ v = s4 ∧ s9 = .bool esc ∧ wx = wb.iter (bs body) pos ∧ Hid (scanV false body = (scanV esc (body.drop pos)).map (body.take pos ++ ·)))
            case atStart =>
              refine ⟨0, false, by omega, rfl, rfl, rfl, Lib.hid ?_⟩
              rw [List.drop_zero]
              cases scanV false body <;> simp [Rd.map]
            case round =>
              obtain ⟨pos, esc, hpg, rfl, rfl, rfl, HS⟩ := hrel
              by_cases hp : pos < body.length
              · have hp2 : pos < (bs body).size := by rw [hbs]; exact hp
                obtain ⟨x, hx⟩ : ∃ x, body[pos]? = some x := ⟨_, List.getElem?_eq_getElem hp⟩
                have hxb : (bs body)[pos]'hp2 = x := (List.getElem?_eq_some_iff.1 hx).2
                have hxl : lnCh x = true := List.all_eq_true.1 HBA.out x (List.mem_of_getElem? hx)
                have hnx : ∀ ty, (Instr.next (.pointer (some ⟨wb.heap.size, 0, none⟩)) true ty).run Tryd.prog (wb.iter (bs body) pos) = _ := fun ty => run_next_ascii wb (bs body) pos ty hp2 (by rw [hxb]; exact lnCh_lt hxl)
                rw [hxb] at hnx
                have h16 := bits16 x
                have HC := Lib.hid fun W => classOf_any x.toNat W
                have HXX := Lib.hid hx
                have HXL := Lib.hid hxl
                clear hxb hx hxl
                by_cases hq : x = 34 ∧ esc = false
                · obtain ⟨rfl, rfl⟩ := hq
                  rw [show (((34 : UInt8).toNat : Nat) : Int) = 34 from rfl] at hnx
                  have hsq := scan_quote HXX.out HS.out rfl
                  obtain ⟨q, hq⟩ : ∃ q, body.drop (pos + 1) = q := ⟨_, rfl⟩
                  obtain ⟨raw, hraw⟩ : ∃ raw, body.take pos = raw := ⟨_, rfl⟩
                  rw [hq, hraw] at hsq
                  have htk := HTK.out
                  rw [hsq] at htk
                  simp only at htk
                  have hqa : q.all lnCh = true := by rw [← hq]; exact List.all_eq_true.2 fun b hb => List.all_eq_true.1 HBA.out b (List.mem_of_mem_drop hb)
                  have hql : q.length + pos + 1 = body.length := by rw [← hq, List.length_drop]; omega
                  have hrl : raw.length ≤ 1024 := by rw [← hraw, List.length_take]; have := HBL.out; omega
                  have hx1 : (bs body).extract (pos + 1) (bs body).size = bs q := by rw [bs_drop, hq]
                  obtain ⟨k, hk⟩ : ∃ k, ledL 32 q = k := ⟨_, rfl⟩
                  have hkl : k ≤ q.length := by rw [← hk]; exact takeWhile_le _ _
                  have hx2 : (bs body).extract (pos + 1 + k) (bs body).size = bs (trimL q) := by rw [bs_drop, ← List.drop_drop, hq, ← hk, trim_led]
                  have hx3 : (bs body).extract 0 pos = bs raw := by rw [bs_take, hraw]
                  have H32b := lead32 q
                  rw [← hx1, hk] at H32b
                  have hmx := fun W (h : Kp [] w W) => unesc_any raw W (by omega) (hm.kp h (by simp))
                  rw [← hx3] at hmx
                  have H34b := Lib.hid hmx
                  have H32b := Lib.hid H32b
                  have hw1 : IntKind.i64.wrap ((pos : Int) + 1) = ((pos + 1 : Nat) : Int) := by rw [IntKind.wrap_i64]; have := HBL.out; omega
                  have hw2 : IntKind.i64.wrap ((pos : Int) + 1 + (k : Int)) = ((pos + 1 + k : Nat) : Int) := by rw [IntKind.wrap_i64]; have := HBL.out; omega
                  have hs1 : ((pos + 1 : Nat) : Int) ≤ ((bs body).size : Int) := by rw [hbs]; omega
                  have hs2 : ((pos + 1 + k : Nat) : Int) ≤ ((bs body).size : Int) := by rw [hbs]; omega
                  have hs3 : (pos : Int) ≤ ((bs body).size : Int) := by rw [hbs]; omega
                  have ht1 : pos + 1 ≤ (bs body).size := by rw [hbs]; omega
                  have ht2 : pos + 1 + k ≤ (bs body).size := by rw [hbs]; omega
                  have ht3 : pos ≤ (bs body).size := by rw [hbs]; omega
                  have HX2 := Lib.hid hx2
                  have HX3 := Lib.hid hx3
                  have HTQ := Lib.hid htk
                  have HQ := Lib.hid (show q.all lnCh = true ∧ q.length + pos + 1 = body.length ∧ k ≤ q.length ∧ ledL 32 q = k from ⟨hqa, hql, hkl, hk⟩)
                  obtain ⟨wi, hwi⟩ : ∃ wi, wb.iter (bs body) (pos + 1) = wi := ⟨_, rfl⟩
                  have hki : Kp [] wb wi := by rw [← hwi]; exact (Kp.refl [] wb).alloc _
                  have HKi := Lib.hid (HKb.out.trans hki)
                  have HTi := Lib.hid (HTb.out.kp hki (by simp))
                  have HOi := Lib.hid (HOb.out.kp0 hki)
                  clear hsq htk hqa hql hrl hx1 hx2 hx3 hk hkl hmx hki hq hraw
                  have HXS := Lib.hid (show xs.length ≤ 1000000 by have := HBL.out; omega)
                  clear hbs
                  by_cases hk0 : k = 0
                  · subst hk0
                    by_cases hqe : q = []
                    · have hie : (bs (trimL q)).toList.isEmpty = true := by rw [bs_isEmpty, hqe]; rfl
                      have HTQ2 := Lib.hid (show tokensL s = preT xs (preT [{ t with val := unescL raw }] (tokensF f' (trimL q))) by rw [HTQ.out, if_neg (fun h => h.1 hqe)])
                      have hie2 : ((bs body).extract (pos + 1) (bs body).size).toList.isEmpty = true := by
                        have := HX2.out
                        rw [Nat.add_zero] at this
                        rw [this]
                        exact hie
                      clear hqe
                      go_wp2_with (first
                        | (go_at_call 32; refine Calls.mono (by with_reducible exact H32b.out _) ?_; rintro r w5 ⟨rfl, hk⟩; have HK5 := Lib.hid (HKi.out.trans hk); have HT5 := Lib.hid (HTi.out.kp hk (by simp)); have HO5 := Lib.hid (HOi.out.kp0 hk); clear hk)
                        | (go_at_call 34; refine Calls.mono (by with_reducible exact H34b.out _ HK5.out) ?_; rintro r w6 ⟨rfl, hk⟩; have HK6 := Lib.hid (HK5.out.trans hk); have HT6 := Lib.hid (HT5.out.kp hk (by simp)); have HO6 := Lib.hid (HO5.out.kp0 hk); clear hk; obtain ⟨d0, d1, d2, d3⟩ := HT6.out.cells; have df := fun o => HT6.out.frz (o := o); obtain ⟨Nb, hNb⟩ : ∃ Nb, w6.heap.size = Nb := ⟨_, rfl⟩; obtain ⟨w7, hw7⟩ : ∃ w7, (w6.setCell ⟨tb, 3, none⟩ (.string (bs (unescL raw)))).alloc (.cells #[.string (bs t.key), .string (bs t.name), .string (bs t.op), .string (bs (unescL raw))] 43) = w7 := ⟨_, rfl⟩; have H7 := Lib.hid (tok_push (x := { t with val := unescL raw }) HK6.out HO6.out htw HOt.out hNb hw7))
                        | (at_builtin; refine wpList_append_r (r := tokT) rfl (.tmp 69) (.tmp 71) rfl w.heap.size v xs rfl H7.out.2.1 Nb 1 { t with val := unescL raw } rfl H7.out.2.2 HXS.out H7.out.1.size ?_; intro v8 w8 hown8 hgr8; have HO8 := Lib.hid hown8; have HK8 := Lib.hid (kp_grown H7.out.1 hgr8 fun b hb => (H7.out.2.1.ge b hb).1); clear hown8 hgr8))
                      rw [HX2.out]
                      go_roundg g
                      case measure => omega
                      case rel =>
                        have hq1 := HQ.out
                        have hb1 := HBL.out
                        have hle := trimL_le q
                        refine ⟨v8, xs ++ [{ t with val := unescL raw }], trimL q, f', rfl, rfl, HO8.out, HK8.out, trimL_all hq1.1, by omega, by rw [List.length_append, List.length_singleton]; omega, by omega, ?_⟩
                        rw [HTQ2.out, preT_app]
                    · have hqt : trimL q = q := led_zero.1 HQ.out.2.2.2
                      have hE := HE.out
                      rw [HTQ.out, if_pos ⟨hqe, hqt⟩] at hE
                      simp only [preT] at hE
                      have HE2 := Lib.hid hE
                      have hie2 : ((bs body).extract (pos + 1) (bs body).size).toList.isEmpty = false := by
                        have := HX2.out
                        rw [Nat.add_zero] at this
                        rw [this, bs_isEmpty, hqt]
                        cases q with
                        | nil => exact absurd rfl hqe
                        | cons _ _ => rfl
                      clear hqe hqt hE
                      go_wp2_with (first
                        | (go_at_call 32; refine Calls.mono (by with_reducible exact H32b.out _) ?_; rintro r w5 ⟨rfl, hk⟩; have HK5 := Lib.hid (HKi.out.trans hk); have HT5 := Lib.hid (HTi.out.kp hk (by simp)); have HO5 := Lib.hid (HOi.out.kp0 hk); clear hk)
                        | (go_at_call 34; refine Calls.mono (by with_reducible exact H34b.out _ HK5.out) ?_; rintro r w6 ⟨rfl, hk⟩; have HK6 := Lib.hid (HK5.out.trans hk); have HT6 := Lib.hid (HT5.out.kp hk (by simp)); have HO6 := Lib.hid (HO5.out.kp0 hk); clear hk; obtain ⟨d0, d1, d2, d3⟩ := HT6.out.cells; have df := fun o => HT6.out.frz (o := o); obtain ⟨Nb, hNb⟩ : ∃ Nb, w6.heap.size = Nb := ⟨_, rfl⟩; obtain ⟨w7, hw7⟩ : ∃ w7, (w6.setCell ⟨tb, 3, none⟩ (.string (bs (unescL raw)))).alloc (.cells #[.string (bs t.key), .string (bs t.name), .string (bs t.op), .string (bs (unescL raw))] 43) = w7 := ⟨_, rfl⟩; have H7 := Lib.hid (tok_push (x := { t with val := unescL raw }) HK6.out HO6.out htw HOt.out hNb hw7))
                        | (at_builtin; refine wpList_append_r (r := tokT) rfl (.tmp 69) (.tmp 71) rfl w.heap.size v xs rfl H7.out.2.1 Nb 1 { t with val := unescL raw } rfl H7.out.2.2 HXS.out H7.out.1.size ?_; intro v8 w8 hown8 hgr8; have HO8 := Lib.hid hown8; have HK8 := Lib.hid (kp_grown H7.out.1 hgr8 fun b hb => (H7.out.2.1.ge b hb).1); clear hown8 hgr8))
                      try rw [Exit.noGoto_ret]
                      go_ret2
                      rw [HE2.out]
                      exact ⟨_, rfl, RT.Own.nil _ _ _, HK5.out⟩
                  · have hk0' : ((k : Int) == 0) = false := by simp; exact hk0
                    have HTQ2 := Lib.hid (show tokensL s = preT xs (preT [{ t with val := unescL raw }] (tokensF f' (trimL q))) by rw [HTQ.out, if_neg (fun h => hk0 (by rw [← HQ.out.2.2.2]; exact led_zero.2 h.2))])
                    clear hk0
                    go_wp2_with (first
                      | (go_at_call 32; refine Calls.mono (by with_reducible exact H32b.out _) ?_; rintro r w5 ⟨rfl, hk⟩; have HK5 := Lib.hid (HKi.out.trans hk); have HT5 := Lib.hid (HTi.out.kp hk (by simp)); have HO5 := Lib.hid (HOi.out.kp0 hk); clear hk)
                      | (go_at_call 34; refine Calls.mono (by with_reducible exact H34b.out _ HK5.out) ?_; rintro r w6 ⟨rfl, hk⟩; have HK6 := Lib.hid (HK5.out.trans hk); have HT6 := Lib.hid (HT5.out.kp hk (by simp)); have HO6 := Lib.hid (HO5.out.kp0 hk); clear hk; obtain ⟨d0, d1, d2, d3⟩ := HT6.out.cells; have df := fun o => HT6.out.frz (o := o); obtain ⟨Nb, hNb⟩ : ∃ Nb, w6.heap.size = Nb := ⟨_, rfl⟩; obtain ⟨w7, hw7⟩ : ∃ w7, (w6.setCell ⟨tb, 3, none⟩ (.string (bs (unescL raw)))).alloc (.cells #[.string (bs t.key), .string (bs t.name), .string (bs t.op), .string (bs (unescL raw))] 43) = w7 := ⟨_, rfl⟩; have H7 := Lib.hid (tok_push (x := { t with val := unescL raw }) HK6.out HO6.out htw HOt.out hNb hw7))
                      | (at_builtin; refine wpList_append_r (r := tokT) rfl (.tmp 69) (.tmp 71) rfl w.heap.size v xs rfl H7.out.2.1 Nb 1 { t with val := unescL raw } rfl H7.out.2.2 HXS.out H7.out.1.size ?_; intro v8 w8 hown8 hgr8; have HO8 := Lib.hid hown8; have HK8 := Lib.hid (kp_grown H7.out.1 hgr8 fun b hb => (H7.out.2.1.ge b hb).1); clear hown8 hgr8))
                    rw [HX2.out]
                    go_roundg g
                    case measure => omega
                    case rel =>
                      have hq1 := HQ.out
                      have hb1 := HBL.out
                      have hle := trimL_le q
                      refine ⟨v8, xs ++ [{ t with val := unescL raw }], trimL q, f', rfl, rfl, HO8.out, HK8.out, trimL_all hq1.1, by omega, by rw [List.length_append, List.length_singleton]; omega, by omega, ?_⟩
                      rw [HTQ2.out, preT_app]
                · by_cases h9 : x = 9
                  · subst h9
                    have h16 := bits9
                    rw [show (((9 : UInt8).toNat : Nat) : Int) = 9 from rfl] at hnx
                    have hE := HE.out
                    rw [HTK.out, scan_tab HXX.out HS.out] at hE
                    simp only [preT] at hE
                    have HE2 := Lib.hid hE
                    clear hq hE
                    go_wp2_with (go_at_call 35; refine Calls.mono (by with_reducible exact class9 _) ?_; rintro r w4 ⟨rfl, rfl⟩)
                    try rw [Exit.noGoto_ret]
                    go_ret2
                    rw [HE2.out]
                    exact ⟨_, rfl, RT.Own.nil _ _ _, HKb.out.alloc _⟩
                  · rw [lnCh_pr HXL.out h9, Bool.not_true] at h16
                    obtain ⟨g3, rfl⟩ : ∃ g3, gk = g3 + 1 := ⟨gk - 1, by omega⟩
                    have HN := Lib.hid (scan_next HXX.out HS.out hq h9)
                    have h92 := u8_eq x 92
                    rw [show ((92 : UInt8).toNat : Int) = 92 from rfl] at h92
                    have H92 := Lib.hid h92
                    clear h92 h9
                    cases esc with
                    | true =>
                      clear hq
                      by_cases hx34 : x = 34
                      · subst hx34
                        have h16 := bits34
                        rw [show (((34 : UInt8).toNat : Nat) : Int) = 34 from rfl] at hnx
                        go_wp2_with (go_at_call 35; refine Calls.mono (by with_reducible exact class34 _) ?_; rintro r w4 ⟨rfl, rfl⟩)
                        go_roundg g3
                        case measure => omega
                        case rel => exact ⟨pos + 1, false, by omega, rfl, rfl, rfl, HN⟩
                      · have h34 : ((x.toNat : Int) == 34) = false := by
                          have e := u8_eq x 34
                          rw [show ((34 : UInt8).toNat : Int) = 34 from rfl] at e
                          rw [e]
                          simp only [beq_eq_false_iff_ne]
                          exact hx34
                        clear hx34
                        go_wp2_with (go_at_call 35; refine Calls.mono (by with_reducible exact HC.out _) ?_; rintro r w4 ⟨rfl, rfl⟩)
                        go_roundg g3
                        case measure => omega
                        case rel => exact ⟨pos + 1, x == 92, by omega, rfl, by rw [H92.out], rfl, HN⟩
                    | false =>
                      have h34 : ((x.toNat : Int) == 34) = false := by
                        have e := u8_eq x 34
                        rw [show ((34 : UInt8).toNat : Int) = 34 from rfl] at e
                        rw [e]
                        simp only [beq_eq_false_iff_ne]
                        exact fun h => hq ⟨h, rfl⟩
                      clear hq
                      go_wp2_with (go_at_call 35; refine Calls.mono (by with_reducible exact HC.out _) ?_; rintro r w4 ⟨rfl, rfl⟩)
                      go_roundg g3
                      case measure => omega
                      case rel => exact ⟨pos + 1, x == 92, by omega, rfl, by rw [H92.out], rfl, HN⟩
              · have hp2 : ¬ pos < (bs body).size := by rw [hbs]; exact hp
                have hnx : ∀ ty, (Instr.next (.pointer (some ⟨wb.heap.size, 0, none⟩)) true ty).run Tryd.prog (wb.iter (bs body) pos) = _ := fun ty => run_next_end wb (bs body) pos ty hp2
                have hE := HE.out
                rw [HTK.out, scan_end (by omega) HS.out] at hE
                simp only [preT] at hE
                have HE2 := Lib.hid hE
                clear hE
                go_wp2
                try rw [Exit.noGoto_ret]
                go_ret2
                rw [HE2.out]
                exact ⟨_, rfl, RT.Own.nil _ _ _, HKb.out.alloc _⟩
end Go.Proofs.YtccmlodocfpbhaaDoor
