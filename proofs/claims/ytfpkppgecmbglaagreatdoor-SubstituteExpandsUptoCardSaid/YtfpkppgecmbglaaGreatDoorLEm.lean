/- What Format writes is read again; the reference's Get, Cut, Number, Words, value, Expand; the tape's values with bounds; SubstituteExpands: the walk; arguments that are values. -/
import Derived.Test.YtfpkppgecmbglaaGreatDoorZE
import Derived.Test.YtfpkppgecmbglaaGreatDoorV
import Derived.Test.YtfpkppgecmbglaaGreatDoorW
import Derived.Lib.SplitLaws
import Derived.Test.YtfpkppgecmbglaaGreatDoorZF
import Derived.Test.YtfpkppgecmbglaaGreatDoorY
import Derived.Test.YtfpkppgecmbglaaGreatDoorId
import Derived.Deep.RegionHeld3
import Derived.Test.YtfpkppgecmbglaaGreatDoorZT
import Derived.Test.YtfpkppgecmbglaaGreatDoorLPlain
import Derived.Test.YtfpkppgecmbglaaGreatDoorFrame
import Derived.Test.YtfpkppgecmbglaaGreatDoorO
import Derived.Deep.Slices
import Derived.Deep.Fields
import Derived.ChangeSame
namespace Go.Proofs.YtfpkppgecmbglaaGreatDoor

theorem all_pr {S s : List UInt8} (h : Nm.allIn S s = true) (hS : S.all prCh = true) : s.all prCh = true := by
  unfold Nm.allIn at h
  rw [List.all_eq_true] at h hS ⊢
  intro b hb
  exact hS b (by simpa using h b hb)
theorem nmB_pr {s : List UInt8} (h : nmB s = true) : s.all prCh = true := by
  unfold nmB Nm.nameB at h
  simp only [Bool.and_eq_true] at h
  exact all_pr h.2 (by decide +kernel)
theorem kyB_pr {s : List UInt8} (h : kyB s = true) : s.all prCh = true := by
  unfold kyB at h
  cases s with
  | nil => rfl
  | cons c r =>
    simp only [Nm.keyB, Bool.and_eq_true] at h
    exact all_pr h.2 (by decide +kernel)
theorem decN_pr {n : Nat} (h : n ≤ 99) : (decN n).all prCh = true := by
  have := List.all_eq_true.1 (show ((List.range 100).all fun n => (decN n).all prCh) = true by decide +kernel) n (List.mem_range.2 (by omega))
  exact this
theorem wordOf_pr (k : Nat) : (wordOf k).all prCh = true := by unfold wordOf; split <;> rfl
theorem letterOf_pr (k : Nat) : prCh (letterOf k) = true := by unfold letterOf; split <;> rfl
theorem tailOf_pr {p : Pc} (h : Well nmB kyB p) : (tailOf p).all prCh = true := by
  unfold tailOf
  split
  · rename_i h78
    have ht : p.text.all prCh = true := by
      rcases h78 with e | e
      · exact nmB_pr (h.t7 e)
      · exact kyB_pr (h.t8 e)
    rw [List.all_cons, List.all_append, ht]
    rfl
  · split
    · rename_i h9
      have hd := decN_pr (h.w9 h9.1).1
      rw [List.all_cons, List.all_append]
      split
      · rw [List.all_append, hd]; rfl
      · rw [hd]; rfl
    · rfl
theorem escL_pr : ∀ t : List UInt8, t.all prCh = true → (escL t).all prCh = true
  | [], _ => rfl
  | b :: t, h => by
    rw [List.all_cons, Bool.and_eq_true] at h
    rw [escL_cons, List.all_append, escL_pr t h.2]
    by_cases e : b = 36 ∨ b = 37 <;> simp [escL, e, h.1]
theorem fmtP_pr {p : Pc} (nx : List UInt8) (h1 : p.kind = 1 → p.text.all prCh = true) (h2 : p.kind ≠ 1 → Well nmB kyB p) : (fmtP p nx).all prCh = true := by
  unfold fmtP
  split
  · rename_i e
    exact escL_pr _ (h1 e)
  · rename_i e
    split
    · rw [List.all_cons, List.all_cons, letterOf_pr]; rfl
    · rw [List.all_cons, List.all_append, wordOf_pr, tailOf_pr (h2 e)]; rfl
def Right (p : Pc) : Prop := (p.kind = 1 → p.text ≠ [] ∧ p.text.all prCh = true ∧ p.word = 0 ∧ p.more = false) ∧ (p.kind ≠ 1 → Well nmB kyB p)
theorem fmtAll_pr : ∀ l : List Pc, (∀ p ∈ l, Right p) → (fmtAll l).all prCh = true
  | [], _ => rfl
  | p :: l, h => by
    have hp := h p (List.mem_cons_self ..)
    rw [fmtAll, List.all_append, fmtP_pr _ (fun e => (hp.1 e).2.1) hp.2, fmtAll_pr l (fun q hq => h q (List.mem_cons_of_mem _ hq))]
    rfl
theorem pcOf_g (p : Pc) : pcOf p.g = p := by obtain ⟨k, t, n, m⟩ := p; simp [pcOf, Pc.g]
theorem g_inj : ∀ {a b : List Pc}, a.map Pc.g = b.map Pc.g → a = b
  | [], [], _ => rfl
  | [], _ :: _, h => by cases h
  | _ :: _, [], h => by cases h
  | p :: a, q :: b, h => by
    rw [List.map_cons, List.map_cons, List.cons.injEq] at h
    rw [g_inj h.2, ← pcOf_g p, h.1, pcOf_g q]
theorem sm_eq : ∀ l : List Pc, smN (l.map Pc.g) = azHead (nextT l)
  | [] => rfl
  | q :: m => by
    show smG q.g = azHead (if q.kind = 1 then q.text else [])
    unfold smG
    by_cases e : q.kind = 1
    · rw [if_pos e, show q.g.kind = (q.kind : Int) from rfl, e]
      rfl
    · rw [if_neg e, show q.g.kind = (q.kind : Int) from rfl, decide_eq_false (by omega)]
      rfl
theorem wrX_eq {p : Pc} {l : List Pc} (hp : Right p) (ha : ∀ q m, l = q :: m → precG p.g q.g = true) : wrX p (smN (l.map Pc.g)) = fmtP p (nextT l) := by
  rw [sm_eq]
  refine (wr_eq p (azHead (nextT l)) hp.2 fun hs e11 => ?_).trans rfl
  cases l with
  | nil => cases hs
  | cons q m =>
    have hq := ha q m rfl
    have hs' : smN ((q :: m).map Pc.g) = true := by rw [sm_eq]; exact hs
    have hs2 : smG q.g = true := hs'
    have hk : q.g.kind = 1 := by
      unfold smG at hs2
      simp only [Bool.and_eq_true, decide_eq_true_eq] at hs2
      exact hs2.1
    unfold precG at hq
    rw [if_neg (by rw [hk]; simp), if_neg (by show ¬ (p.kind : Int) = 1; omega), if_pos (by show (p.kind : Int) = 11; omega), hs2] at hq
    cases hq
theorem fmtR_ok : ∀ (l : List Pc) (acc s : List UInt8), (∀ p ∈ l, Right p) → adjG l → acc.length ≤ 256 → fmtR (l.map Pc.g) acc = (s, 0) → s = acc ++ fmtAll l ∧ s.length ≤ 256
  | [], acc, s, _, _, hl, h => by
    have e : acc = s := congrArg Prod.fst h
    subst e
    exact ⟨by rw [fmtAll, List.append_nil], hl⟩
  | p :: l, acc, s, hr, ha, hl, h => by
    have hp := hr p (List.mem_cons_self ..)
    have e : fmtR ((p :: l).map Pc.g) acc = if 256 < p.text.length then ([], 91) else if 256 < (acc ++ wrX (pcOf p.g) (smN (l.map Pc.g))).length then ([], 91) else fmtR (l.map Pc.g) (acc ++ wrX (pcOf p.g) (smN (l.map Pc.g))) := rfl
    rw [e, pcOf_g, wrX_eq hp ha.1] at h
    split at h
    · cases h
    · split at h
      · cases h
      · obtain ⟨h1, h2⟩ := fmtR_ok l _ s (fun q hq => hr q (List.mem_cons_of_mem _ hq)) ha.2 (by omega) h
        exact ⟨by rw [h1, fmtAll, List.append_assoc], h2⟩
theorem ok_list : ∀ l : List Gp, (∀ j, j < l.length → adjB l j = true) → ∃ ps : List Pc, l = ps.map Pc.g ∧ (∀ p ∈ ps, Right p) ∧ adjG ps
  | [], _ => ⟨[], rfl, by simp, trivial⟩
  | x :: r, h => by
    have h0 := h 0 (by simp)
    rw [adj_zero (show (x :: r)[0]? = some x from rfl)] at h0
    obtain ⟨p, rfl, -, -, -, h1, h2⟩ := ok_pc h0
    have hr : ∀ j, j < r.length → adjB r j = true := fun j hj => by
      have hj1 := h (j + 1) (by simp; omega)
      cases j with
      | zero =>
        obtain ⟨y, hy⟩ : ∃ y, r[0]? = some y := ⟨_, List.getElem?_eq_getElem hj⟩
        rw [adj_zero hy]
        exact adj_ok (show (p.g :: r)[0 + 1]? = some y by rw [List.getElem?_cons_succ]; exact hy) hj1
      | succ i =>
        unfold adjB at hj1 ⊢
        simpa only [List.getElem?_cons_succ] using hj1
    obtain ⟨ps, rfl, hR, hA⟩ := ok_list r hr
    refine ⟨p :: ps, rfl, fun q hq => ?_, ⟨fun q m e => ?_, hA⟩⟩
    · rcases List.mem_cons.1 hq with rfl | hq
      · exact ⟨h1, h2⟩
      · exact hR q hq
    · subst e
      have hj1 := h 1 (by simp)
      rw [adj_at (x := q.g) (y := p.g) rfl rfl, Bool.and_eq_true] at hj1
      exact hj1.2
theorem format_parse {l : List Gp} {s : List UInt8} (h : formatE l = (s, 0)) : ∃ ps : List Pc, l = ps.map Pc.g ∧ parseE s = (ps, 0) ∧ s.length ≤ 256 := by
  unfold formatE at h
  split at h
  · rename_i ho
    obtain ⟨ps, rfl, hR, hA⟩ := ok_list l ((okAll_iff l).1 ho)
    obtain ⟨hs, hl⟩ := fmtR_ok ps [] s hR hA (by simp) h
    rw [List.nil_append] at hs
    refine ⟨ps, rfl, ?_, hl⟩
    have hf : FineL nmB kyB ps := fine_of ps (fun p hp => ⟨fun e => ⟨((hR p hp).1 e).1, ((hR p hp).1 e).2.2.1, ((hR p hp).1 e).2.2.2⟩, (hR p hp).2⟩) hA
    have hpr := fmtAll_pr ps hR
    have hP := parse_fmt nmB_no kyB_no hf
    unfold parseE
    rw [if_neg (by omega), txB_eq, hs, hpr, decide_eq_true (by rw [← hs]; exact hl), if_neg (by simp), hP]
  · cases h
theorem tsum_mem {p : Pc} : ∀ {l : List Pc}, p ∈ l → p.text.length ≤ tsum l
  | q :: l, h => by
    have e : tsum (q :: l) = q.text.length + tsum l := by simp [tsum]
    rw [e]
    rcases List.mem_cons.1 h with rfl | h
    · omega
    · have := tsum_mem h; omega
theorem pfrom_tsum : ∀ (n : Nat) (s : List UInt8) (acc l : List Pc), s.length ≤ n → s.length ≤ 256 → pfrom nmB kyB acc s = some l → tsum l ≤ tsum acc + 256 * s.length
  | n, [], acc, l, _, _, h => by
    rw [pfrom_nil] at h
    cases h
    simp
  | 0, b :: s, acc, l, hn, _, _ => by simp at hn
  | n + 1, b :: s, acc, l, hn, h256, h => by
    cases e : stepL nmB kyB (b :: s) with
    | none => rw [pfrom_none acc (by simp) e] at h; cases h
    | some x =>
      obtain ⟨p, r⟩ := x
      obtain ⟨h1, _, h3⟩ := stepL_le e
      rw [pfrom_step acc e] at h
      rw [List.length_cons] at h1 hn h3 h256 ⊢
      have := pfrom_tsum n r (addP acc p) l (by omega) (by omega) h
      have hl := addP_tsum acc p
      omega
theorem parseE_text (s : List UInt8) : ∀ q ∈ (parseE s).1, q.text.length ≤ 65536 := fun q hq => by
  unfold parseE at hq
  split at hq
  · cases hq
  · split at hq
    · cases hq
    · split at hq
      · cases hq
      · rename_i h0 _ _ l e
        have h1 := pfrom_tsum s.length s [] l (Nat.le_refl _) (by omega) e
        have h2 : q.text.length ≤ tsum l := tsum_mem hq
        have h3 : tsum [] = 0 := rfl
        omega
end Go.Proofs.YtfpkppgecmbglaaGreatDoor

namespace Go.Proofs.YtfpkppgecmbglaaGreatDoor
open Go.RowKit

set_option maxHeartbeats 1000000 in
set_option maxRecDepth 100000 in
theorem refGet_any (n : List UInt8) (sv : Value) (l : List Atb) (w : World) (hl : l.length ≤ 1000000000000) (h : atT.Has w sv l) : Calls Tryz.prog 88 #[sv, .string (bs n)] w fun e w' => e = .returned (getV n l) ∧ Kp [] w w' := by
  obtain ⟨va, vc, rfl, hrow⟩ := h.form
  obtain ⟨R, hR⟩ : ∃ R, getV n l = R := ⟨_, rfl⟩
  rw [hR]
  have HR := Lib.hid (show ∀ g, getL n l = g → Value.tuple #[.string (bs (g.getD [])), .bool g.isSome] = R from fun g h => by rw [← hR, ← h]; rfl)
  have HRow := Lib.hid hrow
  obtain ⟨N, hN⟩ : ∃ N, l.length = N := ⟨_, rfl⟩
  rw [hN] at hl ⊢
  have HN := Lib.hid hN
  clear hR hrow h hN
  go_enter Tryz.func88, Tryz.ntmps88
  go_wp2
  go_loopg [6] N (fun g s6 wx => ∃ i : Nat, s6 = .int .i64 (i : Int) ∧ i + g = N ∧ Hid (getL n l = getL n (l.drop i)) ∧ Hid (Kp [] w wx))
  case atStart => exact ⟨0, rfl, by omega, Lib.hid (by rw [List.drop_zero]), Lib.hid (Kp.refl _ _)⟩
  case round =>
    obtain ⟨i, rfl, hig, hinv, hk⟩ := hrel
    cases gk with
    | zero =>
      have hiN : i = N := by omega
      have hlt : ¬ ((i : Int) < (N : Int)) := by omega
      have hf := HR.out none (by rw [hinv.out, List.drop_eq_nil_of_le (by rw [HN.out]; omega)]; rfl)
      have HF := Lib.hid hf
      clear hf hiN
      go_wp2
      go_ret2
      exact ⟨congrArg Ending.returned HF.out, hk.out⟩
    | succ gk =>
      have hlt : (i : Int) < (N : Int) := by omega
      obtain ⟨⟨x1, x2⟩, hx⟩ : ∃ x, l[i]? = some x := ⟨_, List.getElem?_eq_getElem (by rw [HN.out]; omega)⟩
      obtain ⟨b, o, rfl, hb, hrw⟩ := HRow.out (by intro e; rw [e] at hx; simp at hx)
      obtain ⟨hc0, hc1⟩ := atRow (hrw.keep (hk.out.block b hb (by simp))) hx
      have hst := hinv.out.trans (getL_step n l i _ hx)
      simp only at hc0 hc1 hst
      have HIG := Lib.hid hig
      clear hrw hx hinv
      by_cases hq : x1 = n
      · subst hq
        rw [if_pos rfl] at hst
        have hf := HR.out (some x2) hst
        have hse : ((bs x1).toList == (bs x1).toList) = true := by simp
        have HF := Lib.hid hf
        clear hf hst
        go_wp2
        go_ret2
        exact ⟨congrArg Ending.returned HF.out, hk.out⟩
      · rw [if_neg hq] at hst
        have hse := str_neb hq
        have HST := Lib.hid hst
        clear hst hq
        go_wp2
        go_roundg gk
        case measure => omega
        case rel => exact ⟨i + 1, by go_num, by have := HIG.out; omega, HST, hk⟩
theorem refCut_any (s : List UInt8) (w : World) : Calls Tryz.prog 49 #[.string (bs s)] w fun e w' => e = .returned (.string (bs (s.take 256))) ∧ Kp [] w w' := by
  have hsz : (bs s).size = s.length := rfl
  by_cases h : 256 < s.length
  · have hz : (256 : Int) < (s.length : Int) := by omega
    have hex : (bs s).extract 0 256 = bs (s.take 256) := bs_take s 256
    have hle : (256 : Int) ≤ (s.length : Int) := by omega
    have hle2 : 256 ≤ (bs s).size := by omega
    go_enter Tryz.func49, Tryz.ntmps49
    go_wp2
    go_ret
    exact ⟨rfl, Kp.refl _ _⟩
  · have hz : ¬ ((256 : Int) < (s.length : Int)) := by omega
    rw [List.take_of_length_le (by omega)]
    go_enter Tryz.func49, Tryz.ntmps49
    go_wp2
    go_ret
    exact ⟨rfl, Kp.refl _ _⟩
end Go.Proofs.YtfpkppgecmbglaaGreatDoor

namespace Go.Proofs.YtfpkppgecmbglaaGreatDoor.Nm
open Go.RowKit

set_option maxHeartbeats 400000 in
set_option maxRecDepth 100000 in
theorem refNumber_any (s : ByteArray) (w : World) (hs : s.size ≤ 4611686018427387904) :
    Calls Tryz.prog 87 #[.string s] w fun e w' => e = .returned (.string (s.extract (numAt s.data.toList s.size) s.size)) ∧ w' = w := by
  go_enter Tryz.func87, Tryz.ntmps87
  go_wp2
  go_loop [3] (fun s3 => ∃ k : Nat, k ≤ s.size ∧ s3 = .int .i64 k ∧ numAt s.data.toList k = numAt s.data.toList s.size) (fun s3 => (intOf s3).toNat)
  case atStart => exact ⟨_, Nat.le_refl _, rfl, rfl⟩
  case round =>
    obtain ⟨k, hk, rfl, hn⟩ := hrel
    cases k with
    | zero =>
      have Hn := Lib.hid hn
      clear hn
      go_wp2
      go_ret
      exact ⟨by rw [← Hn.out]; simp [numAt], rfl⟩
    | succ k =>
      have hlt : k < s.size := by omega
      obtain ⟨x, hx⟩ : ∃ x : UInt8, s[k]'hlt = x := ⟨_, rfl⟩
      have hxl : s.data.toList[k]? = some x := by rw [← hx]; exact Lib.data_getElem? s k hlt
      have hd := dig_iff x
      rw [numAt, hxl] at hn
      simp only [Option.map_some, Option.getD_some] at hn
      clear hxl
      by_cases h1 : 48 ≤ (x.toNat : Int)
      · by_cases h2 : (x.toNat : Int) ≤ 57
        · rw [decide_eq_true h1, decide_eq_true h2] at hd
          rw [if_pos (by rw [hd]; rfl)] at hn
          clear hd
          have Hn := Lib.hid hn
          clear hn
          go_wp2
          go_round
          case rel => exact ⟨k, by omega, rfl, Hn.out⟩
          case measure => simp [intOf]
        · rw [decide_eq_true h1, decide_eq_false h2] at hd
          rw [if_neg (by rw [hd]; exact Bool.false_ne_true)] at hn
          clear hd
          have Hn := Lib.hid hn
          clear hn
          go_wp2
          go_ret
          exact ⟨by rw [← Hn.out]; rfl, rfl⟩
      · rw [decide_eq_false h1, Bool.false_and] at hd
        rw [if_neg (by rw [hd]; exact Bool.false_ne_true)] at hn
        clear hd
        have Hn := Lib.hid hn
        clear hn
        go_wp2
        go_ret
        exact ⟨by rw [← Hn.out]; rfl, rfl⟩

end Go.Proofs.YtfpkppgecmbglaaGreatDoor.Nm
namespace Go.Proofs.YtfpkppgecmbglaaGreatDoor
open Go.RowKit
theorem refNum_any (s : List UInt8) (w : World) (hs : s.length ≤ 1000000000000) : Calls Tryz.prog 87 #[.string (bs s)] w fun e w' => e = .returned (.string (bs (numT s))) ∧ Kp [] w w' := by
  have h := Nm.refNumber_any (bs s) w (by rw [bs_size]; omega)
  rw [bs_drop, bs_data, bs_size] at h
  exact h.mono fun _ _ ⟨h1, h2⟩ => ⟨h1, by rw [h2]; exact Kp.refl _ _⟩
end Go.Proofs.YtfpkppgecmbglaaGreatDoor

namespace Go.Proofs.YtfpkppgecmbglaaGreatDoor
open Go.RowKit

theorem index_byte (c : UInt8) (s : List UInt8) : Lib.index s [c] = Lib.indexByte s c := Lib.index_one s c
theorem pieces_length (c : UInt8) : ∀ l : List UInt8, (Nm.pieces c l).length = l.count c + 1
  | [] => rfl
  | x :: r => by
    have ih := pieces_length c r
    unfold Nm.pieces
    by_cases h : x = c
    · subst h
      rw [if_pos rfl, List.length_cons, ih, List.count_cons_self]
    · rw [if_neg h, List.count_cons_of_ne h]
      cases hp : Nm.pieces c r with
      | nil => exact absurd hp (Nm.pieces_ne c r)
      | cons p ps => rw [hp] at ih; simpa using ih
theorem split_pieces (c : UInt8) : ∀ (k : Nat) (s : List UInt8), Lib.count s [c] = k → Lib.splitK [c] 0 k s = Nm.pieces c s
  | 0, s, h => by
    have hi : Lib.index s [c] = -1 := by
      have hge := Lib.index_ge s [c]
      by_cases hm : Lib.index s [c] = -1
      · exact hm
      · obtain ⟨i, hi⟩ : ∃ i : Nat, Lib.index s [c] = i := ⟨(Lib.index s [c]).toNat, by omega⟩
        have := Lib.count_hit (by simp) hi
        omega
    rw [Nm.pieces_none c s (by rw [← index_byte, hi]; decide)]
    rfl
  | k + 1, s, h => by
    have hge := Lib.index_ge s [c]
    have hm : Lib.index s [c] ≠ -1 := fun e => by rw [Lib.count_miss e] at h; omega
    obtain ⟨i, hi⟩ : ∃ i : Nat, Lib.index s [c] = i := ⟨(Lib.index s [c]).toNat, by omega⟩
    have hc := Lib.count_hit (by simp) hi
    rw [Nm.pieces_some c s i (by rw [← index_byte]; exact hi), Lib.splitK, show (Lib.index s [c] == -1) = false by simpa using hm, if_neg Bool.false_ne_true, hi, Int.toNat_natCast, Nat.add_zero]
    have hd : Lib.count (s.drop (i + [c].length)) [c] = k := by omega
    rw [split_pieces c k _ hd]
    rfl
theorem split_any (s : List UInt8) (w : World) (hE : Env w) (hl : s.length ≤ 1000000) : Calls Tryz.prog 117 #[.string (bs s), .string ⟨#[32]⟩] w fun r w' =>
    r = .returned (.slice (some ⟨w.heap.size, 0, none⟩) (splitL 32 s).length (splitL 32 s).length) ∧ stT.Row w' w.heap.size 0 (splitL 32 s) ∧ Kp [] w w' ∧ w.heap.size < w'.heap.size := by
  obtain ⟨m, hm⟩ := hE.max
  have h := Tryz.strings_Split (bs s) ⟨#[32]⟩ m w (by rw [bs_size]; omega) hm (by decide)
  have hc : Lib.countB (bs s) ⟨#[32]⟩ = Lib.count s [32] := rfl
  have hd := Lib.splitB_data ⟨#[32]⟩ 0 (Lib.countB (bs s) ⟨#[32]⟩) (bs s)
  rw [hc, bs_data, show (⟨#[32]⟩ : ByteArray).data.toList = [32] from rfl, split_pieces 32 _ s rfl] at hd
  have hv : (Lib.splitB ⟨#[32]⟩ 0 (Lib.count s [32]) (bs s)).map Value.string = (Nm.pieces 32 s).map fun p => .string (bs p) := by
    rw [← hd, List.map_map]
    refine List.map_congr_left fun x _ => ?_
    show Value.string x = .string (bs x.data.toList)
    rw [bs_of]
  have hn : Lib.count s [32] + 1 = (Nm.pieces 32 s).length := by rw [pieces_length, Lib.count_one]
  rw [hc, hv, hn] at h
  rw [← pieces_split]
  refine h.mono fun r w' ⟨h1, h2⟩ => ⟨h1, ?_, by rw [h2]; exact (Kp.refl [] w).alloc _, by rw [h2]; simp⟩
  intro j p hp m u hu
  rw [h2, cell_of_row _ _ _ _ _ _ (heap_alloc_last w _)]
  have hm0 : m = 0 := by
    have := (List.getElem?_eq_some_iff.1 hu).1
    rw [stT.len] at this
    have : m < 1 := this
    omega
  subst hm0
  have hu2 : u = .string (bs p) := by
    have : some (Value.string (bs p)) = some u := hu
    exact (Option.some.inj this).symm
  subst hu2
  have h1 : stT.sz = 1 := rfl
  simp [hp, h1]
def neW (x : List UInt8) : Bool := !x.isEmpty
set_option maxHeartbeats 4000000 in
set_option maxRecDepth 100000 in
theorem refWords_any (s : List UInt8) (w : World) (hE : Env w) (hl : s.length ≤ 100000) : Calls Tryz.prog 89 #[.string (bs s)] w fun e w' => ∃ v, e = .returned v ∧ Hid (stT.Own w' w.heap.size v (wordsL s)) ∧ Hid (Kp [] w w') := by
  have HSp := Lib.hid (split_any s w hE (by omega))
  have hlen := (splitL_len 32 s).1
  have hwd : wordsL s = (splitL 32 s).filter neW := rfl
  obtain ⟨B, hB⟩ : ∃ B, w.heap.size = B := ⟨_, rfl⟩
  rw [hwd, hB]
  generalize splitL 32 s = L at *
  obtain ⟨N, hN⟩ : ∃ N, L.length = N := ⟨_, rfl⟩
  rw [hB, hN] at HSp
  rw [hN] at hlen
  have HN := Lib.hid hN
  have HON := Lib.hid (RT.Own.nil stT)
  have HBw := Lib.hid hB
  have HNl := Lib.hid (show N ≤ 100001 by omega)
  clear hE hN hwd hB hl hlen
  go_enter Tryz.func89, Tryz.ntmps89
  go_upto_region 3 with (go_at_call 117; refine Calls.mono (by with_reducible exact HSp.out) ?_; rintro r w1 ⟨rfl, hrow, hk1, hlt1⟩; have HRw := Lib.hid hrow; have HK1 := Lib.hid hk1; have HLt := Lib.hid hlt1; clear hrow hk1 hlt1)
  obtain ⟨B1, hB1⟩ : ∃ B1, w1.heap.size = B1 := ⟨_, rfl⟩
  have HB1 := Lib.hid hB1
  have HLt1 := Lib.hid (show B < B1 by have := HLt.out; omega)
  clear hB1 HSp
  go_wp2
  go_loopg [4, 5] N (fun g s4 s5 wx => ∃ i : Nat, s5 = .int .i64 (i : Int) ∧ i + g = N ∧ stT.Own wx B1 s4 ((L.take i).filter neW) ∧ Hid (Kp [] w1 wx))
  case atStart => exact ⟨0, rfl, by omega, HON.out _ _, Lib.hid (Kp.refl _ _)⟩
  case round =>
    obtain ⟨i, rfl, hig, hO, hk⟩ := hrel
    have HO := Lib.hid hO
    obtain ⟨va, vc, rfl⟩ := hO.form
    clear hO
    cases gk with
    | zero =>
      have hlt : ¬ ((i : Int) < (N : Int)) := by omega
      have hfin : (L.take i).filter neW = L.filter neW := by rw [List.take_of_length_le (by rw [HN.out]; omega)]
      have HF := Lib.hid hfin
      clear hfin
      go_wp2
      go_ret
      first
        | exact ⟨Lib.hid (by rw [← HF.out]; exact HO.out.down (by have := HLt1.out; omega)), Lib.hid (HK1.out.trans hk.out)⟩
        | exact ⟨_, rfl, Lib.hid (by rw [← HF.out]; exact HO.out.down (by have := HLt1.out; omega)), Lib.hid (HK1.out.trans hk.out)⟩
    | succ gk =>
      have HIG := Lib.hid hig
      have hib : i ≤ 100001 := by have := HNl.out; omega
      have hlt : (i : Int) < (N : Int) := by omega
      obtain ⟨x, hx⟩ : ∃ x, L[i]? = some x := ⟨_, List.getElem?_eq_getElem (by rw [HN.out]; omega)⟩
      have q0 : wr.cell? ⟨B, i, none⟩ = some (.string (bs x)) := by
        have h1 := HRw.out i x hx 0 (.string (bs x)) rfl
        have h2 : stT.sz = 1 := rfl
        rw [h2] at h1
        have h3 := hk.out.block B (by rw [HB1.out]; exact HLt1.out) (by simp)
        unfold World.cell? at h1 ⊢
        simp only at h1 ⊢
        rw [h3]
        simpa using h1
      have htk : L.take (i + 1) = L.take i ++ [x] := by rw [List.take_add_one, hx]; rfl
      have hse := bs_isEmpty x
      have HTK := Lib.hid (show (L.take (i + 1)).filter neW = (L.take i).filter neW ++ if neW x then [x] else [] from by
        rw [htk, List.filter_append]
        congr 1
        cases hnw : neW x <;> simp [hnw])
      have HFL := Lib.hid (show ((L.take i).filter neW).length ≤ 1000000 from by
        have h1 := List.length_filter_le neW (L.take i)
        rw [List.length_take] at h1
        have := HNl.out
        omega)
      clear hx htk
      cases he : x.isEmpty with
      | true =>
        rw [he] at hse
        have HT2 := Lib.hid (show (L.take (i + 1)).filter neW = (L.take i).filter neW from by rw [HTK.out]; unfold neW; rw [he]; simp)
        clear he HTK
        go_wp2
        go_roundg gk
        case measure => omega
        case rel => exact ⟨i + 1, by go_num, by have := HIG.out; omega, by rw [HT2.out]; exact HO.out, hk⟩
      | false =>
        rw [he] at hse
        have HT2 := Lib.hid (show (L.take (i + 1)).filter neW = (L.take i).filter neW ++ [x] from by rw [HTK.out]; unfold neW; rw [he]; simp)
        obtain ⟨Nb, hNb⟩ : ∃ n, wr.heap.size = n := ⟨_, rfl⟩
        obtain ⟨W5, hW5⟩ : ∃ W, wr.alloc (.cells #[.string (bs x)] 9) = W := ⟨_, rfl⟩
        have hk5 : Kp [] wr W5 := by rw [← hW5]; exact (Kp.refl [] wr).alloc _
        have hnew : W5.heap[Nb]? = some (.cells #[.string (bs x)] 9 (0, 0)) := by rw [← hW5, ← hNb]; exact heap_alloc_last wr _
        have HPN := Lib.hid (show W5.rangeAt Nb 0 (stT.cf x) from fun m v hv => by
          rw [Nat.zero_add, cell_of_row _ _ _ _ _ _ hnew]
          simpa [stT] using hv)
        have HO5 := Lib.hid (HO.out.kp0 hk5)
        have HK5 := Lib.hid (hk.out.trans hk5)
        have HNb := Lib.hid hNb
        have HW5 := Lib.hid hW5
        have HB5 := Lib.hid (show B1 ≤ W5.heap.size by rw [← HB1.out]; exact HK5.out.size)
        clear he HTK hk5 hnew hNb hW5
        go_wp2_with (at_builtin; rw [HNb.out, HW5.out]; refine wpList_append_r (r := stT) rfl (.tmp 19) (.tmp 24) rfl B1 (.slice va ((L.take i).filter neW).length vc) _ rfl HO5.out Nb 1 x rfl HPN.out HFL.out HB5.out ?_; intro v8 w8 hown8 hgr8; have HO8 := Lib.hid hown8; have HG8 := Lib.hid hgr8; clear hown8 hgr8)
        go_roundg gk
        case measure => omega
        case rel => exact ⟨i + 1, by go_num, by have := HIG.out; omega, by rw [HT2.out]; exact HO8.out, Lib.hid (kp_grownV HK5.out HG8.out fun b hb => by rw [HB1.out]; exact (HO5.out.ge b hb).1)⟩
end Go.Proofs.YtfpkppgecmbglaaGreatDoor

namespace Go.Proofs.YtfpkppgecmbglaaGreatDoor
open Go.RowKit

theorem join_from {w : World} {B g cap : Nat} {l : List (List UInt8)} (h : stT.Own w B (.slice (some ⟨g, 0, none⟩) l.length cap) l) (d : Nat) (hd : d < l.length) (hl : (joinL (l.drop d)).length ≤ 100000000000000) (hn : l.length ≤ 1000000) :
    Calls Tryz.prog 90 #[.slice (some ⟨g, d, none⟩) (l.length - d) (cap - d), .string ⟨#[32]⟩] w fun e w' => e = .returned (.string (bs (joinL (l.drop d)))) ∧ Kp [] w w' := by
  rcases h.form2 with ⟨h1, h2⟩ | ⟨g', cap', h1, _, hlt, hcap, _, hr⟩
  · cases h1
  · cases h1
    have e : ((l.drop d).map bs).map (·.data.toList) = l.drop d := by rw [List.map_map]; exact List.map_id' _
    have := Tryz.strings_Join g d (cap - d) ((l.drop d).map bs) ⟨#[32]⟩ w (fun j x hx => by
      rw [List.getElem?_map] at hx
      obtain ⟨y, hy, rfl⟩ := Option.map_eq_some_iff.1 hx
      rw [List.getElem?_drop] at hy
      have := hr (d + j) y hy 0 _ rfl
      rw [show stT.sz = 1 from rfl, Nat.mul_one, Nat.zero_add] at this
      exact this) hlt (by rw [List.length_map, List.length_drop]; omega) (by rw [List.length_map, List.length_drop]; omega) (by rw [e, show (⟨#[32]⟩ : ByteArray).data.toList = [32] from rfl, join_eq]; omega)
    rw [e, show (⟨#[32]⟩ : ByteArray).data.toList = [32] from rfl, join_eq, List.length_map, List.length_drop] at this
    exact this.mono fun _ _ ⟨h1, h2⟩ => ⟨h1, Kp.of_below h2⟩
theorem joinL_bd {K : Nat} : ∀ l : List (List UInt8), (∀ x ∈ l, x.length ≤ K) → (joinL l).length ≤ l.length * (K + 1)
  | [], _ => by simp [joinL]
  | x :: l, h => by
    have h1 := h x (List.mem_cons_self ..)
    have h2 := joinL_bd l (fun y hy => h y (List.mem_cons_of_mem _ hy))
    rw [joinL_cons, List.length_cons, Nat.add_mul, Nat.one_mul]
    split
    · omega
    · rw [List.length_append, List.length_cons]; omega
set_option maxHeartbeats 4000000 in
set_option maxRecDepth 100000 in
theorem val_1 (t : List UInt8) (n : Nat) (m : Bool) (v : Vs) (a b c : Value) (w : World) : Calls Tryz.prog 48 #[.agg #[.int .i64 1, .string (bs t), .int .i64 (n : Int), .bool m], .agg #[.string (bs v.kernel), .string (bs v.devpath), .string (bs v.id), .string (bs v.driver), .string (bs v.parent), .string (bs v.name), .string (bs v.result), a, b, c]] w fun e w' => e = .returned (.string (bs t)) ∧ Kp [] w w' := by
  have HK := Lib.hid (((Kp.refl [] w).alloc (.cells #[.int .i64 1, .string (bs t), .int .i64 (n : Int), .bool m] 61)).alloc (.cells #[.string (bs v.kernel), .string (bs v.devpath), .string (bs v.id), .string (bs v.driver), .string (bs v.parent), .string (bs v.name), .string (bs v.result), a, b, c] 43))
  go_enter Tryz.func48, Tryz.ntmps48
  go_wp2
  go_ret
  exact ⟨rfl, HK.out⟩
set_option maxHeartbeats 4000000 in
set_option maxRecDepth 100000 in
theorem val_2 (t : List UInt8) (n : Nat) (m : Bool) (v : Vs) (a b c : Value) (w : World) : Calls Tryz.prog 48 #[.agg #[.int .i64 2, .string (bs t), .int .i64 (n : Int), .bool m], .agg #[.string (bs v.kernel), .string (bs v.devpath), .string (bs v.id), .string (bs v.driver), .string (bs v.parent), .string (bs v.name), .string (bs v.result), a, b, c]] w fun e w' => e = .returned (.string (bs v.kernel)) ∧ Kp [] w w' := by
  have HK := Lib.hid (((Kp.refl [] w).alloc (.cells #[.int .i64 2, .string (bs t), .int .i64 (n : Int), .bool m] 61)).alloc (.cells #[.string (bs v.kernel), .string (bs v.devpath), .string (bs v.id), .string (bs v.driver), .string (bs v.parent), .string (bs v.name), .string (bs v.result), a, b, c] 43))
  go_enter Tryz.func48, Tryz.ntmps48
  go_wp2
  go_ret
  exact ⟨rfl, HK.out⟩
set_option maxHeartbeats 4000000 in
set_option maxRecDepth 100000 in
theorem val_4 (t : List UInt8) (n : Nat) (m : Bool) (v : Vs) (a b c : Value) (w : World) : Calls Tryz.prog 48 #[.agg #[.int .i64 4, .string (bs t), .int .i64 (n : Int), .bool m], .agg #[.string (bs v.kernel), .string (bs v.devpath), .string (bs v.id), .string (bs v.driver), .string (bs v.parent), .string (bs v.name), .string (bs v.result), a, b, c]] w fun e w' => e = .returned (.string (bs v.devpath)) ∧ Kp [] w w' := by
  have HK := Lib.hid (((Kp.refl [] w).alloc (.cells #[.int .i64 4, .string (bs t), .int .i64 (n : Int), .bool m] 61)).alloc (.cells #[.string (bs v.kernel), .string (bs v.devpath), .string (bs v.id), .string (bs v.driver), .string (bs v.parent), .string (bs v.name), .string (bs v.result), a, b, c] 43))
  go_enter Tryz.func48, Tryz.ntmps48
  go_wp2
  go_ret
  exact ⟨rfl, HK.out⟩
set_option maxHeartbeats 4000000 in
set_option maxRecDepth 100000 in
theorem val_5 (t : List UInt8) (n : Nat) (m : Bool) (v : Vs) (a b c : Value) (w : World) : Calls Tryz.prog 48 #[.agg #[.int .i64 5, .string (bs t), .int .i64 (n : Int), .bool m], .agg #[.string (bs v.kernel), .string (bs v.devpath), .string (bs v.id), .string (bs v.driver), .string (bs v.parent), .string (bs v.name), .string (bs v.result), a, b, c]] w fun e w' => e = .returned (.string (bs v.id)) ∧ Kp [] w w' := by
  have HK := Lib.hid (((Kp.refl [] w).alloc (.cells #[.int .i64 5, .string (bs t), .int .i64 (n : Int), .bool m] 61)).alloc (.cells #[.string (bs v.kernel), .string (bs v.devpath), .string (bs v.id), .string (bs v.driver), .string (bs v.parent), .string (bs v.name), .string (bs v.result), a, b, c] 43))
  go_enter Tryz.func48, Tryz.ntmps48
  go_wp2
  go_ret
  exact ⟨rfl, HK.out⟩
set_option maxHeartbeats 4000000 in
set_option maxRecDepth 100000 in
theorem val_6 (t : List UInt8) (n : Nat) (m : Bool) (v : Vs) (a b c : Value) (w : World) : Calls Tryz.prog 48 #[.agg #[.int .i64 6, .string (bs t), .int .i64 (n : Int), .bool m], .agg #[.string (bs v.kernel), .string (bs v.devpath), .string (bs v.id), .string (bs v.driver), .string (bs v.parent), .string (bs v.name), .string (bs v.result), a, b, c]] w fun e w' => e = .returned (.string (bs v.driver)) ∧ Kp [] w w' := by
  have HK := Lib.hid (((Kp.refl [] w).alloc (.cells #[.int .i64 6, .string (bs t), .int .i64 (n : Int), .bool m] 61)).alloc (.cells #[.string (bs v.kernel), .string (bs v.devpath), .string (bs v.id), .string (bs v.driver), .string (bs v.parent), .string (bs v.name), .string (bs v.result), a, b, c] 43))
  go_enter Tryz.func48, Tryz.ntmps48
  go_wp2
  go_ret
  exact ⟨rfl, HK.out⟩
set_option maxHeartbeats 4000000 in
set_option maxRecDepth 100000 in
theorem val_10 (t : List UInt8) (n : Nat) (m : Bool) (v : Vs) (a b c : Value) (w : World) : Calls Tryz.prog 48 #[.agg #[.int .i64 10, .string (bs t), .int .i64 (n : Int), .bool m], .agg #[.string (bs v.kernel), .string (bs v.devpath), .string (bs v.id), .string (bs v.driver), .string (bs v.parent), .string (bs v.name), .string (bs v.result), a, b, c]] w fun e w' => e = .returned (.string (bs v.parent)) ∧ Kp [] w w' := by
  have HK := Lib.hid (((Kp.refl [] w).alloc (.cells #[.int .i64 10, .string (bs t), .int .i64 (n : Int), .bool m] 61)).alloc (.cells #[.string (bs v.kernel), .string (bs v.devpath), .string (bs v.id), .string (bs v.driver), .string (bs v.parent), .string (bs v.name), .string (bs v.result), a, b, c] 43))
  go_enter Tryz.func48, Tryz.ntmps48
  go_wp2
  go_ret
  exact ⟨rfl, HK.out⟩
set_option maxHeartbeats 4000000 in
set_option maxRecDepth 100000 in
theorem val_11 (t : List UInt8) (n : Nat) (m : Bool) (v : Vs) (a b c : Value) (w : World) : Calls Tryz.prog 48 #[.agg #[.int .i64 11, .string (bs t), .int .i64 (n : Int), .bool m], .agg #[.string (bs v.kernel), .string (bs v.devpath), .string (bs v.id), .string (bs v.driver), .string (bs v.parent), .string (bs v.name), .string (bs v.result), a, b, c]] w fun e w' => e = .returned (.string (bs v.name)) ∧ Kp [] w w' := by
  have HK := Lib.hid (((Kp.refl [] w).alloc (.cells #[.int .i64 11, .string (bs t), .int .i64 (n : Int), .bool m] 61)).alloc (.cells #[.string (bs v.kernel), .string (bs v.devpath), .string (bs v.id), .string (bs v.driver), .string (bs v.parent), .string (bs v.name), .string (bs v.result), a, b, c] 43))
  go_enter Tryz.func48, Tryz.ntmps48
  go_wp2
  go_ret
  exact ⟨rfl, HK.out⟩
set_option maxHeartbeats 4000000 in
set_option maxRecDepth 100000 in
theorem val_3 (t : List UInt8) (n : Nat) (m : Bool) (v : Vs) (a b c : Value) (w : World) (hl : v.kernel.length ≤ 1000000000000) : Calls Tryz.prog 48 #[.agg #[.int .i64 3, .string (bs t), .int .i64 (n : Int), .bool m], .agg #[.string (bs v.kernel), .string (bs v.devpath), .string (bs v.id), .string (bs v.driver), .string (bs v.parent), .string (bs v.name), .string (bs v.result), a, b, c]] w fun e w' => e = .returned (.string (bs (numT v.kernel))) ∧ Kp [] w w' := by
  have HK := Lib.hid (((Kp.refl [] w).alloc (.cells #[.int .i64 3, .string (bs t), .int .i64 (n : Int), .bool m] 61)).alloc (.cells #[.string (bs v.kernel), .string (bs v.devpath), .string (bs v.id), .string (bs v.driver), .string (bs v.parent), .string (bs v.name), .string (bs v.result), a, b, c] 43))
  have HN := Lib.hid (fun W => refNum_any v.kernel W hl)
  go_enter Tryz.func48, Tryz.ntmps48
  go_wp2_with (go_at_call 87; refine Calls.mono (by with_reducible exact HN.out _) ?_; rintro e w1 ⟨rfl, hk1⟩)
  go_ret
  exact ⟨rfl, HK.out.trans hk1⟩
set_option maxHeartbeats 4000000 in
set_option maxRecDepth 100000 in
theorem val_8 (t : List UInt8) (n : Nat) (m : Bool) (v : Vs) (a b c : Value) (w : World) (hv : VsIn w v a b c) : Calls Tryz.prog 48 #[.agg #[.int .i64 8, .string (bs t), .int .i64 (n : Int), .bool m], .agg #[.string (bs v.kernel), .string (bs v.devpath), .string (bs v.id), .string (bs v.driver), .string (bs v.parent), .string (bs v.name), .string (bs v.result), a, b, c]] w fun e w' => e = .returned (.string (bs ((getL t v.env).getD []))) ∧ Kp [] w w' := by
  have hk := ((Kp.refl [] w).alloc (.cells #[.int .i64 8, .string (bs t), .int .i64 (n : Int), .bool m] 61)).alloc (.cells #[.string (bs v.kernel), .string (bs v.devpath), .string (bs v.id), .string (bs v.driver), .string (bs v.parent), .string (bs v.name), .string (bs v.result), a, b, c] 43)
  have HN := Lib.hid (refGet_any t c v.env _ hv.lc (hv.hc.kp0 hk))
  unfold getV at HN
  have HK := Lib.hid hk
  clear hk hv
  go_enter Tryz.func48, Tryz.ntmps48
  go_wp2_with (go_at_call 88; refine Calls.mono (by with_reducible exact HN.out) ?_; rintro e w1 ⟨rfl, hk1⟩)
  go_ret
  exact ⟨rfl, HK.out.trans hk1⟩
set_option maxHeartbeats 4000000 in
set_option maxRecDepth 100000 in
theorem val_7 (t : List UInt8) (n : Nat) (m : Bool) (v : Vs) (a b c : Value) (w : World) (hv : VsIn w v a b c) : Calls Tryz.prog 48 #[.agg #[.int .i64 7, .string (bs t), .int .i64 (n : Int), .bool m], .agg #[.string (bs v.kernel), .string (bs v.devpath), .string (bs v.id), .string (bs v.driver), .string (bs v.parent), .string (bs v.name), .string (bs v.result), a, b, c]] w fun e w' => e = .returned (.string (bs (((getL t v.attrs).or (getL t v.above)).getD []))) ∧ Kp [] w w' := by
  obtain ⟨P, hP⟩ : ∃ P, w.heap.size = P := ⟨_, rfl⟩
  obtain ⟨W1, hW1⟩ : ∃ W1, w.alloc (.cells #[.int .i64 7, .string (bs t), .int .i64 (n : Int), .bool m] 61) = W1 := ⟨_, rfl⟩
  obtain ⟨V, hV⟩ : ∃ V, W1.heap.size = V := ⟨_, rfl⟩
  obtain ⟨W2, hW2⟩ : ∃ W2, W1.alloc (.cells #[.string (bs v.kernel), .string (bs v.devpath), .string (bs v.id), .string (bs v.driver), .string (bs v.parent), .string (bs v.name), .string (bs v.result), a, b, c] 43) = W2 := ⟨_, rfl⟩
  have hk1 : Kp [] w W1 := by rw [← hW1]; exact (Kp.refl [] w).alloc _
  have hk12 : Kp [] W1 W2 := by rw [← hW2]; exact (Kp.refl [] W1).alloc _
  have hPb : PAt W2 P ⟨7, t, (n : Int), m⟩ := (show PAt W1 P ⟨7, t, (n : Int), m⟩ by rw [← hW1, ← hP]; exact heap_alloc_last w _).kp hk12 (by simp)
  have hVb : W2.heap[V]? = some (.cells #[.string (bs v.kernel), .string (bs v.devpath), .string (bs v.id), .string (bs v.driver), .string (bs v.parent), .string (bs v.name), .string (bs v.result), a, b, c] 43 (0, 0)) := by rw [← hW2, ← hV]; exact heap_alloc_last W1 _
  have HPb := Lib.hid hPb
  have HVb := Lib.hid hVb
  have HK2 := Lib.hid (hk1.trans hk12)
  have HC := Lib.hid (show ∀ W, Kp [] W2 W → W.cell? ⟨V, 6, none⟩ = some (.string (bs v.result)) ∧ W.cell? ⟨V, 7, none⟩ = some a ∧ W.cell? ⟨V, 8, none⟩ = some b from fun W h => by
    have h1 := (h.block V (block_lt hVb) (by simp)).trans hVb
    refine ⟨?_, ?_, ?_⟩ <;> (rw [cell_of_row _ _ _ _ _ _ h1]; rfl))
  have HPp := Lib.hid (show ∀ W, Kp [] W2 W → PAt W P ⟨7, t, (n : Int), m⟩ from fun W h => hPb.kp h (by simp))
  obtain ⟨d0, d1, d2, d3⟩ := pcell hPb
  obtain ⟨v6, v7, v8⟩ := HC.out W2 (Kp.refl [] W2)
  have HPe := Lib.hid hP
  have HW1 := Lib.hid hW1
  have HVe := Lib.hid (show P + 1 = V by rw [← hV, ← hW1, World.size_alloc, hP])
  have HW2 := Lib.hid hW2
  clear hP hW1 hV hW2 hk1 hk12 hPb hVb
  have HG1 := Lib.hid (fun W (h : Kp [] W2 W) => refGet_any t a v.attrs W hv.la (hv.ha.kp0 (HK2.out.trans h)))
  have HG2 := Lib.hid (fun W (h : Kp [] W2 W) => refGet_any t b v.above W hv.lb (hv.hb.kp0 (HK2.out.trans h)))
  unfold getV at HG1 HG2
  clear hv
  cases hg : getL t v.attrs with
  | some y =>
    rw [hg] at HG1
    simp only [Option.getD_some, Option.isSome_some] at HG1
    clear hg
    go_enter Tryz.func48, Tryz.ntmps48
    go_upto_region 1 with fail
    rw [HPe.out, HVe.out, HW1.out, HW2.out]
    go_wp2_with (go_at_call 88; refine Calls.mono (by with_reducible exact HG1.out _ (Kp.refl [] W2)) ?_; rintro e w1 ⟨rfl, hk1⟩)
    go_ret
    exact ⟨by rw [Option.some_or]; rfl, HK2.out.trans hk1⟩
  | none =>
    rw [hg] at HG1
    simp only [Option.getD_none, Option.isSome_none] at HG1
    rw [Option.none_or]
    clear hg
    go_enter Tryz.func48, Tryz.ntmps48
    go_upto_region 1 with fail
    rw [HPe.out, HVe.out, HW1.out, HW2.out]
    go_wp2_with (first
      | (go_at_call 88; refine Calls.mono (by with_reducible exact HG1.out _ (Kp.refl [] W2)) ?_; rintro e w1 ⟨rfl, hk1⟩; have HK3 := Lib.hid hk1; obtain ⟨e0, e1, e2, e3⟩ := pcell (HPp.out _ hk1); obtain ⟨v6', v7', v8'⟩ := HC.out _ hk1; clear hk1)
      | (go_at_call 88; refine Calls.mono (by with_reducible exact HG2.out _ HK3.out) ?_; rintro e w2 ⟨rfl, hk2⟩; have HK4 := Lib.hid (HK3.out.trans hk2); clear hk2))
    go_ret
    exact ⟨rfl, HK2.out.trans HK4.out⟩
set_option maxHeartbeats 4000000 in
set_option maxRecDepth 100000 in
theorem val_9 (t : List UInt8) (n : Nat) (m : Bool) (v : Vs) (a b c : Value) (w : World) (hE : Env w) (hn : n ≤ 99) (hl : v.result.length ≤ 50000) : Calls Tryz.prog 48 #[.agg #[.int .i64 9, .string (bs t), .int .i64 (n : Int), .bool m], .agg #[.string (bs v.kernel), .string (bs v.devpath), .string (bs v.id), .string (bs v.driver), .string (bs v.parent), .string (bs v.name), .string (bs v.result), a, b, c]] w fun e w' => e = .returned (.string (bs (resultL v.result n m))) ∧ Kp [] w w' := by
  obtain ⟨P, hP⟩ : ∃ P, w.heap.size = P := ⟨_, rfl⟩
  obtain ⟨W1, hW1⟩ : ∃ W1, w.alloc (.cells #[.int .i64 9, .string (bs t), .int .i64 (n : Int), .bool m] 61) = W1 := ⟨_, rfl⟩
  obtain ⟨V, hV⟩ : ∃ V, W1.heap.size = V := ⟨_, rfl⟩
  obtain ⟨W2, hW2⟩ : ∃ W2, W1.alloc (.cells #[.string (bs v.kernel), .string (bs v.devpath), .string (bs v.id), .string (bs v.driver), .string (bs v.parent), .string (bs v.name), .string (bs v.result), a, b, c] 43) = W2 := ⟨_, rfl⟩
  have hk1 : Kp [] w W1 := by rw [← hW1]; exact (Kp.refl [] w).alloc _
  have hk12 : Kp [] W1 W2 := by rw [← hW2]; exact (Kp.refl [] W1).alloc _
  have hPb : PAt W2 P ⟨9, t, (n : Int), m⟩ := (show PAt W1 P ⟨9, t, (n : Int), m⟩ by rw [← hW1, ← hP]; exact heap_alloc_last w _).kp hk12 (by simp)
  have hVb : W2.heap[V]? = some (.cells #[.string (bs v.kernel), .string (bs v.devpath), .string (bs v.id), .string (bs v.driver), .string (bs v.parent), .string (bs v.name), .string (bs v.result), a, b, c] 43 (0, 0)) := by rw [← hW2, ← hV]; exact heap_alloc_last W1 _
  have HPb := Lib.hid hPb
  have HVb := Lib.hid hVb
  have HK2 := Lib.hid (hk1.trans hk12)
  have HC := Lib.hid (show ∀ W, Kp [] W2 W → W.cell? ⟨V, 6, none⟩ = some (.string (bs v.result)) ∧ W.cell? ⟨V, 7, none⟩ = some a ∧ W.cell? ⟨V, 8, none⟩ = some b from fun W h => by
    have h1 := (h.block V (block_lt hVb) (by simp)).trans hVb
    refine ⟨?_, ?_, ?_⟩ <;> (rw [cell_of_row _ _ _ _ _ _ h1]; rfl))
  have HPp := Lib.hid (show ∀ W, Kp [] W2 W → PAt W P ⟨9, t, (n : Int), m⟩ from fun W h => hPb.kp h (by simp))
  obtain ⟨d0, d1, d2, d3⟩ := pcell hPb
  obtain ⟨v6, v7, v8⟩ := HC.out W2 (Kp.refl [] W2)
  have HPe := Lib.hid hP
  have HW1 := Lib.hid hW1
  have HVe := Lib.hid (show P + 1 = V by rw [← hV, ← hW1, World.size_alloc, hP])
  have HW2 := Lib.hid hW2
  clear hP hW1 hV hW2 hk1 hk12 hPb hVb
  have HWd := Lib.hid (fun W (h : Kp [] W2 W) => refWords_any v.result W (hE.kp0 (HK2.out.trans h)) (by omega))
  have hwl := wordsL_len v.result
  obtain ⟨L, hL⟩ : ∃ L, wordsL v.result = L := ⟨_, rfl⟩
  have hres : resultL v.result n m = if n = 0 then v.result else if m then joinL (L.drop (n - 1)) else (L[n - 1]?).getD [] := by rw [← hL]; rfl
  rw [hL] at HWd hwl
  rw [hres]
  have hLl := hwl.1
  have HJ := Lib.hid (show ∀ d, (joinL (L.drop d)).length ≤ 100000000000000 from fun d => by
    have h1 := joinL_bd (K := 50000) (L.drop d) (fun x hx => by have := (hwl.2 x (List.mem_of_mem_drop hx)).1; omega)
    have h2 : (L.drop d).length ≤ 50001 := by rw [List.length_drop]; omega
    have h3 := Nat.mul_le_mul_right 50001 h2
    have h4 : 50001 * 50001 ≤ 100000000000000 := by decide
    have h5 : (L.drop d).length * (50000 + 1) ≤ 50001 * 50001 := h3
    exact Nat.le_trans h1 (Nat.le_trans h5 h4))
  clear hE hres hwl hL
  rcases Nat.eq_zero_or_pos n with h0 | h0
  · subst h0
    rw [if_pos rfl]
    have dk : W2.cell? ⟨P, 2, none⟩ = some (.int .i64 0) := d2
    clear d2 HWd HJ hLl
    go_enter Tryz.func48, Tryz.ntmps48
    go_upto_region 1 with fail
    rw [HPe.out, HVe.out, show w.alloc (.cells #[.int .i64 9, .string (bs t), .int .i64 0, .bool m] 61) = W1 from HW1.out, HW2.out]
    go_wp2
    go_ret
    exact ⟨rfl, HK2.out⟩
  rw [if_neg (show ¬ n = 0 by omega)]
  obtain ⟨RS, hRS⟩ : ∃ r, (if m = true then joinL (L.drop (n - 1)) else (L[n - 1]?).getD []) = r := ⟨_, rfl⟩
  rw [hRS]
  have HRS := Lib.hid hRS
  clear hRS
  obtain ⟨M, hM⟩ : ∃ M, L.length = M := ⟨_, rfl⟩
  have n0 : ((n : Int) == 0) = false := by rw [beq_eq_false_iff_ne]; omega
  have HM := Lib.hid hM
  have HLl := Lib.hid (show M ≤ 50001 by omega)
  clear hLl hM
  go_enter Tryz.func48, Tryz.ntmps48
  go_upto_region 1 with fail
  rw [HPe.out, HVe.out, HW1.out, HW2.out]
  go_upto_region 30 with (go_at_call 89; refine Calls.mono (by with_reducible exact HWd.out _ (Kp.refl [] W2)) ?_; rintro e w3 ⟨v3, rfl, ho3, hk3⟩; have HK3 := Lib.hid hk3.out; have HO3 := Lib.hid ho3.out; clear hk3 ho3)
  obtain ⟨va, vc, rfl⟩ := HO3.out.form
  rw [HM.out] at HO3 ⊢
  clear d0 d1 d2 d3 v6 v7 v8
  obtain ⟨d0, d1, d2, d3⟩ := pcell (HPp.out _ HK3.out)
  by_cases hgt : M < n
  · have hz : (M : Int) < (n : Int) := by omega
    have hr : (if m = true then joinL (L.drop (n - 1)) else (L[n - 1]?).getD []) = [] := by
      rw [List.drop_eq_nil_of_le (by rw [HM.out]; omega), List.getElem?_eq_none_iff.2 (by rw [HM.out]; omega)]
      cases m <;> rfl
    have HR0 := Lib.hid (HRS.out.symm.trans hr)
    clear hr
    go_wp2
    go_ret
    exact ⟨by rw [HR0.out]; rfl, HK2.out.trans HK3.out⟩
  have hz : ¬ ((M : Int) < (n : Int)) := by omega
  obtain ⟨d, hd⟩ : ∃ d, n = d + 1 := ⟨n - 1, by omega⟩
  have HRS2 := HRS.out
  rw [show n - 1 = d by omega] at HRS2
  have HRD := Lib.hid HRS2
  clear HRS2 HRS
  have hdM : d < M := by omega
  have hnd : (n : Int) - 1 = (d : Int) := by omega
  have hdi : (d : Int) < (M : Int) := by omega
  have hdi2 : (d : Int) ≤ (M : Int) := by omega
  have hd0 : (0 : Int) ≤ (d : Int) := by omega
  have HWd1 := Lib.hid (show wrap64 (d : Int) = (d : Int) by unfold wrap64; omega)
  have HWd2 := Lib.hid (show IntKind.i64.wrap (d : Int) = (d : Int) by rw [IntKind.wrap_i64]; omega)
  rcases HO3.out.form2 with ⟨h1, h2⟩ | ⟨g, cap, h1, _, hlt, hcap, _, hr⟩
  · rw [h2] at HM; have := HM.out; simp at this; omega
  rw [HM.out] at h1
  obtain ⟨rfl, rfl⟩ : va = some ⟨g, 0, none⟩ ∧ vc = cap := by cases h1; exact ⟨rfl, rfl⟩
  have hcap2 : M ≤ vc := by rw [← HM.out]; exact hcap
  obtain ⟨x, hx⟩ : ∃ x, L[d]? = some x := ⟨_, List.getElem?_eq_getElem (by rw [HM.out]; exact hdM)⟩
  have hc0 : w3.cell? ⟨g, d, none⟩ = some (.string (bs x)) := by
    have := hr d x hx 0 _ rfl
    rw [show stT.sz = 1 from rfl, Nat.mul_one, Nat.zero_add] at this
    exact this
  have HJn := Lib.hid (show Calls Tryz.prog 90 #[.slice (some ⟨g, d, none⟩) (M - d) (vc - d), .string ⟨#[32]⟩] w3 (fun e w' => e = .returned (.string (bs (joinL (L.drop d)))) ∧ Kp [] w3 w') from by
    have := join_from (l := L) (cap := vc) (g := g) (by rw [HM.out]; exact HO3.out) d (by rw [HM.out]; exact hdM) (HJ.out d) (by rw [HM.out]; have := HLl.out; omega)
    rw [HM.out] at this
    exact this)
  have hne : ¬ vc = d := by omega
  have hdc : d ≤ vc := by omega
  have hdMn : d ≤ M := by omega
  have hdci : (d : Int) ≤ (vc : Int) := by omega
  have hMci : (M : Int) ≤ (vc : Int) := by omega
  have HX := Lib.hid hx
  clear h1 hr hcap hd hx HJ HWd hgt
  have hwd1 := HWd1.out
  have hwd2 := HWd2.out
  cases m with
  | true =>
    go_wp2_with (go_at_call 90; refine Calls.mono (by with_reducible exact HJn.out) ?_; rintro e w4 ⟨rfl, hk4⟩)
    go_ret
    exact ⟨by rw [← HRD.out]; rfl, (HK2.out.trans HK3.out).trans hk4⟩
  | false =>
    go_wp2
    go_ret
    exact ⟨by rw [← HRD.out, HX.out]; rfl, HK2.out.trans HK3.out⟩
end Go.Proofs.YtfpkppgecmbglaaGreatDoor

namespace Go.Proofs.YtfpkppgecmbglaaGreatDoor
open Go.RowKit

/-- All texts of the values are short. -/
structure VSz (K : Nat) (v : Vs) : Prop where
  k : v.kernel.length ≤ K
  d : v.devpath.length ≤ K
  i : v.id.length ≤ K
  r : v.driver.length ≤ K
  p : v.parent.length ≤ K
  n : v.name.length ≤ K
  t : v.result.length ≤ K
  a : ∀ x ∈ v.attrs, x.2.length ≤ K
  b : ∀ x ∈ v.above, x.2.length ≤ K
  c : ∀ x ∈ v.env, x.2.length ≤ K
def ValsPostB (tb : Nat) (w : World) (e : Ending) (w' : World) : Prop := ∃ (v : Vs) (a b c : Value), e = .returned (.agg (vsC v a b c)) ∧ VsIn w' v a b c ∧ Hid (VSz 300 v) ∧ Kp [tb] w w'
set_option maxHeartbeats 8000000 in
set_option maxRecDepth 100000 in
theorem values_bd {w : World} {tb k0 : Nat} (hk0 : k0 ≤ 1000) (h : Tp w tb k0) : Calls Tryz.prog 20 #[.pointer (some ⟨tb, 0, none⟩)] w (ValsPostB tb w) := by
  obtain ⟨W0, hW0⟩ : ∃ W0, w.alloc (.cells #[.string ⟨#[]⟩, .string ⟨#[]⟩, .string ⟨#[]⟩, .string ⟨#[]⟩, .string ⟨#[]⟩, .string ⟨#[]⟩, .string ⟨#[]⟩, .slice none 0 0, .slice none 0 0, .slice none 0 0] 43) = W0 := ⟨_, rfl⟩
  obtain ⟨R, hR⟩ : ∃ R, w.heap.size = R := ⟨_, rfl⟩
  have hk0 : Kp [] w W0 := by rw [← hW0]; exact (Kp.refl [] w).alloc _
  have hR0 : W0.heap.size = R + 1 := by rw [← hW0, World.size_alloc, hR]
  have hRb : W0.heap[R]? = some (.cells #[.string ⟨#[]⟩, .string ⟨#[]⟩, .string ⟨#[]⟩, .string ⟨#[]⟩, .string ⟨#[]⟩, .string ⟨#[]⟩, .string ⟨#[]⟩, .slice none 0 0, .slice none 0 0, .slice none 0 0] 43 (0, 0)) := by rw [← hW0, ← hR]; exact heap_alloc_last w _
  have HT := Lib.hid (h.kp hk0 (by simp))
  have HL := Lib.hid (hR ▸ h.lt)
  have HW0 := Lib.hid hW0
  have HR := Lib.hid hR
  have HR0 := Lib.hid hR0
  have HRB := Lib.hid hRb
  have HK00 := Lib.hid (hk0.mono (t := [tb]) (by simp))
  have HK0 := Lib.hid (Kp.refl [tb] W0)
  have HRS := Lib.hid hR0
  have HI := Lib.hid (show (Tryz.prog.info? 43).map (·.size) = some 10 by kernel_rfl)
  clear h hW0 hR hk0 hR0 hRb
  go_enter Tryz.func20, Tryz.ntmps20
  go_wp2_with fail
  rw [HR.out, HW0.out]
  refine Calls.mono (by with_reducible exact oneV0 (k := k0) (by omega) HT.out _ HR0.out) ?_
  rintro e w1 ⟨x0, hx0, rfl, ht1, hk1⟩
  have HT1 := Lib.hid ht1
  have HK1 := Lib.hid (HK0.out.trans hk1)
  have HX0 := Lib.hid hx0
  clear HT HR0 HK0 HW0 ht1 hk1 hx0
  go_wp2_with fail
  refine Calls.mono (by with_reducible exact oneV1 (k := k0 + 1) (by omega) HT1.out _ rfl) ?_
  rintro e w2 ⟨x1, hx1, rfl, ht2, hk2⟩
  have HX1 := Lib.hid hx1
  have HT2 := Lib.hid ht2
  have HK2 := Lib.hid (HK1.out.trans hk2)
  clear HT1 HK1 ht2 hk2 hx1
  go_wp2_with fail
  refine Calls.mono (by with_reducible exact oneV2 (k := k0 + 2) (by omega) HT2.out _ rfl) ?_
  rintro e w3 ⟨x2, hx2, rfl, ht3, hk3⟩
  have HX2 := Lib.hid hx2
  have HT3 := Lib.hid ht3
  have HK3 := Lib.hid (HK2.out.trans hk3)
  clear HT2 HK2 ht3 hk3 hx2
  go_wp2_with fail
  refine Calls.mono (by with_reducible exact oneV3 (k := k0 + 3) (by omega) HT3.out _ rfl) ?_
  rintro e w4 ⟨x3, hx3, rfl, ht4, hk4⟩
  have HX3 := Lib.hid hx3
  have HT4 := Lib.hid ht4
  have HK4 := Lib.hid (HK3.out.trans hk4)
  clear HT3 HK3 ht4 hk4 hx3
  go_wp2_with fail
  refine Calls.mono (by with_reducible exact oneV4 (k := k0 + 4) (by omega) HT4.out _ rfl) ?_
  rintro e w5 ⟨x4, hx4, rfl, ht5, hk5⟩
  have HX4 := Lib.hid hx4
  have HT5 := Lib.hid ht5
  have HK5 := Lib.hid (HK4.out.trans hk5)
  clear HT4 HK4 ht5 hk5 hx4
  go_wp2_with fail
  refine Calls.mono (by with_reducible exact oneV5 (k := k0 + 5) (by omega) HT5.out _ rfl) ?_
  rintro e w6 ⟨x5, hx5, rfl, ht6, hk6⟩
  have HX5 := Lib.hid hx5
  have HT6 := Lib.hid ht6
  have HK6 := Lib.hid (HK5.out.trans hk6)
  clear HT5 HK5 ht6 hk6 hx5
  go_wp2_with fail
  refine Calls.mono (by with_reducible exact rep_w _) ?_
  rintro e wr ⟨y, hy, rfl, hkr⟩
  have HTr := Lib.hid (HT6.out.kp hkr (by simp))
  have HKr := Lib.hid (HK6.out.trans (hkr.mono (t := [tb]) (by simp)))
  clear HT6 HK6 hkr
  go_wp2_with fail
  refine Calls.mono (by with_reducible exact oneV6 (k := k0 + 6) y hy (by omega) HTr.out _ rfl) ?_
  rintro e w7 ⟨x6, hx6, rfl, ht7, hk7⟩
  have HT7 := Lib.hid ht7
  have HK7 := Lib.hid (HKr.out.trans hk7)
  have HX6 := Lib.hid hx6
  clear HTr HKr ht7 hk7 hx6 hy
  go_wp2_with fail
  refine Calls.mono (by with_reducible exact oneV7 (k := k0 + 7) (by omega) HT7.out _ rfl) ?_
  rintro e w8 ⟨x7, hx7, rfl, ht8, hk8⟩
  have HX7 := Lib.hid hx7
  have hK8 := HK7.out.trans hk8
  obtain ⟨A1, hA1⟩ : ∃ A, w8.heap.size = A := ⟨_, rfl⟩
  obtain ⟨W8, hW8⟩ : ∃ W8, w8.alloc (.cells #[.string ⟨#[115, 105, 122, 101]⟩, .string (bs x7)] 56) = W8 := ⟨_, rfl⟩
  have hk8' : Kp [] w8 W8 := by rw [← hW8]; exact (Kp.refl [] w8).alloc _
  have HB1 := Lib.hid (show W8.heap[A1]? = some (.cells #[.string ⟨#[115, 105, 122, 101]⟩, .string (bs x7)] 56 (0, 0)) by rw [← hW8, ← hA1]; exact heap_alloc_last w8 _)
  have HT8 := Lib.hid (ht8.kp hk8' (by simp))
  have HK8 := Lib.hid (hK8.trans (hk8'.mono (t := [tb]) (by simp)))
  have HS8 := Lib.hid (show W8.heap.size = A1 + 1 by rw [← hW8, World.size_alloc, hA1])
  have HW8 := Lib.hid hW8
  have HA1 := Lib.hid hA1
  have HL1 := Lib.hid (show tb < A1 by have h1 := HL.out; have h2 := hK8.size; have h3 := HRS.out; omega)
  clear HT7 HK7 ht8 hk8 hk8' hW8 hA1 hx7 hK8
  go_wp2_with fail
  rw [HA1.out, HW8.out]
  refine Calls.mono (by with_reducible exact oneV8 (k := k0 + 8) (by omega) HT8.out _ HS8.out) ?_
  rintro e w9 ⟨x8, hx8, rfl, ht9, hk9⟩
  have HX8 := Lib.hid hx8
  have hK9 := HK8.out.trans hk9
  obtain ⟨A2, hA2⟩ : ∃ A, w9.heap.size = A := ⟨_, rfl⟩
  obtain ⟨W9, hW9⟩ : ∃ W9, w9.alloc (.cells #[.string ⟨#[115, 105, 122, 101]⟩, .string ⟨#[57, 57]⟩, .string ⟨#[118, 101, 110, 100, 111, 114]⟩, .string (bs x8)] 56) = W9 := ⟨_, rfl⟩
  have hk9' : Kp [] w9 W9 := by rw [← hW9]; exact (Kp.refl [] w9).alloc _
  have HB2 := Lib.hid (show W9.heap[A2]? = some (.cells #[.string ⟨#[115, 105, 122, 101]⟩, .string ⟨#[57, 57]⟩, .string ⟨#[118, 101, 110, 100, 111, 114]⟩, .string (bs x8)] 56 (0, 0)) by rw [← hW9, ← hA2]; exact heap_alloc_last w9 _)
  have HT9 := Lib.hid (ht9.kp hk9' (by simp))
  have HK9 := Lib.hid (hK9.trans (hk9'.mono (t := [tb]) (by simp)))
  have HS9 := Lib.hid (show W9.heap.size = A2 + 1 by rw [← hW9, World.size_alloc, hA2])
  have HB1' := Lib.hid (show W9.heap[A1]? = some (.cells #[.string ⟨#[115, 105, 122, 101]⟩, .string (bs x7)] 56 (0, 0)) from ((hk9.trans (hk9'.mono (t := [tb]) (by simp))).block A1 (block_lt HB1.out) (by have := HL1.out; simp; omega)).trans HB1.out)
  have HL2 := Lib.hid (show tb < A2 by have h1 := HL.out; have h2 := hK9.size; have h3 := HRS.out; omega)
  have HW9 := Lib.hid hW9
  have HA2 := Lib.hid hA2
  clear HT8 HK8 ht9 hk9 hk9' hW9 hA2 hx8 hK9 HB1 HW8 HS8
  go_wp2_with fail
  rw [HA2.out, HW9.out]
  refine Calls.mono (by with_reducible exact oneV9 (k := k0 + 9) (by omega) HT9.out _ HS9.out) ?_
  rintro e w10 ⟨x9, hx9, rfl, ht10, hk10⟩
  have HX9 := Lib.hid hx9
  have hK10 := HK9.out.trans hk10
  obtain ⟨A3, hA3⟩ : ∃ A, w10.heap.size = A := ⟨_, rfl⟩
  obtain ⟨W10, hW10⟩ : ∃ W10, w10.alloc (.cells #[.string ⟨#[73, 68]⟩, .string (bs x9)] 56) = W10 := ⟨_, rfl⟩
  have hk10' : Kp [] w10 W10 := by rw [← hW10]; exact (Kp.refl [] w10).alloc _
  have hkk := hk10.trans (hk10'.mono (t := [tb]) (by simp))
  have HB3 := Lib.hid (show W10.heap[A3]? = some (.cells #[.string ⟨#[73, 68]⟩, .string (bs x9)] 56 (0, 0)) by rw [← hW10, ← hA3]; exact heap_alloc_last w10 _)
  have HK10 := Lib.hid (hK10.trans (hk10'.mono (t := [tb]) (by simp)))
  have HB1 := Lib.hid (show W10.heap[A1]? = some (.cells #[.string ⟨#[115, 105, 122, 101]⟩, .string (bs x7)] 56 (0, 0)) from (hkk.block A1 (block_lt HB1'.out) (by have := HL1.out; simp; omega)).trans HB1'.out)
  have HB2' := Lib.hid (show W10.heap[A2]? = some (.cells #[.string ⟨#[115, 105, 122, 101]⟩, .string ⟨#[57, 57]⟩, .string ⟨#[118, 101, 110, 100, 111, 114]⟩, .string (bs x8)] 56 (0, 0)) from (hkk.block A2 (block_lt HB2.out) (by have := HL2.out; simp; omega)).trans HB2.out)
  have HW10 := Lib.hid hW10
  have HA3 := Lib.hid hA3
  clear HT9 HK9 ht10 hk10 hk10' hW10 hA3 hx9 hK10 hkk HB1' HB2 HW9 HS9
  have hrb := (HK10.out.block R (block_lt HRB.out) (by have := HL.out; simp; omega)).trans HRB.out
  have HN1 := Lib.hid (show A1 ≠ R by intro e; have h1 := HB1.out; rw [e, hrb] at h1; simp at h1)
  have HN2 := Lib.hid (show A2 ≠ R by intro e; have h1 := HB2'.out; rw [e, hrb] at h1; simp at h1)
  have HN3 := Lib.hid (show A3 ≠ R by intro e; have h1 := HB3.out; rw [e, hrb] at h1; simp at h1)
  have HRB0 := Lib.hid hrb
  clear hrb
  have HON := Lib.hid (show (#[.string (bs x0), .string (bs x1), .string (bs x2), .string (bs x3), .string (bs x4), .string (bs x5), .string (bs x6), .slice (some ⟨A1, 0, none⟩) 1 1, .slice (some ⟨A2, 0, none⟩) 2 2, .slice (some ⟨A3, 0, none⟩) 1 1] : Array Value).all (·.oneCell') = true by simp [Value.oneCell'])
  go_wp2_with (rw [HW10.out, HA3.out]; refine wpList_store_row rfl 43 _ _ rfl R #[.string (bs x0), .string (bs x1), .string (bs x2), .string (bs x3), .string (bs x4), .string (bs x5), .string (bs x6), .slice (some ⟨A1, 0, none⟩) 1 1, .slice (some ⟨A2, 0, none⟩) 2 2, .slice (some ⟨A3, 0, none⟩) 1 1] rfl rfl 43 _ HRB0.out HI.out rfl HON.out ?_)
  refine bodyPost_ret (v := .agg #[.string (bs x0), .string (bs x1), .string (bs x2), .string (bs x3), .string (bs x4), .string (bs x5), .string (bs x6), .slice (some ⟨A1, 0, none⟩) 1 1, .slice (some ⟨A2, 0, none⟩) 2 2, .slice (some ⟨A3, 0, none⟩) 1 1]) (results_cell_row rfl _ _ R 43 _ _ _ rfl (setRow_heap _ _ _ _ _ _ HRB0.out) Tryz.underlying43 rfl HI.out) rfl ?_
  have hin : VsIn W10 ⟨x0, x1, x2, x3, x4, x5, x6, [([115, 105, 122, 101], x7)], [([115, 105, 122, 101], [57, 57]), ([118, 101, 110, 100, 111, 114], x8)], [([73, 68], x9)]⟩ (.slice (some ⟨A1, 0, none⟩) 1 1) (.slice (some ⟨A2, 0, none⟩) 2 2) (.slice (some ⟨A3, 0, none⟩) 1 1) :=
    ⟨.inr ⟨A1, 0, 1, rfl, block_lt HB1.out, RT.row_of (r := atT) (cur := [.string (bs [115, 105, 122, 101]), .string (bs x7)]) HB1.out rfl⟩,
     .inr ⟨A2, 0, 2, rfl, block_lt HB2'.out, RT.row_of (r := atT) (cur := [.string (bs [115, 105, 122, 101]), .string (bs [57, 57]), .string (bs [118, 101, 110, 100, 111, 114]), .string (bs x8)]) HB2'.out rfl⟩,
     .inr ⟨A3, 0, 1, rfl, block_lt HB3.out, RT.row_of (r := atT) (cur := [.string (bs [73, 68]), .string (bs x9)]) HB3.out rfl⟩,
     by simp, by simp, by simp, by have := HX0.out; simp; omega, by have := HX6.out; simp; omega⟩
  have hks : Kp [R] W10 (W10.setRow R #[.string (bs x0), .string (bs x1), .string (bs x2), .string (bs x3), .string (bs x4), .string (bs x5), .string (bs x6), .slice (some ⟨A1, 0, none⟩) 1 1, .slice (some ⟨A2, 0, none⟩) 2 2, .slice (some ⟨A3, 0, none⟩) 1 1]) := (Kp.refl [R] W10).setRow (.inl (by simp)) _
  refine ⟨_, _, _, _, rfl, ⟨hin.ha.kp hks ?_, hin.hb.kp hks ?_, hin.hc.kp hks ?_, hin.la, hin.lb, hin.lc, hin.lk, hin.lr⟩, Lib.hid ⟨HX0.out, HX1.out, HX2.out, HX3.out, HX4.out, HX5.out, HX6.out, ?_, ?_, ?_⟩, (HK00.out.trans HK10.out).up hks ?_⟩
  · intro b hb; simp [Value.ownBlock] at hb; have := HN1.out; simp; omega
  · intro b hb; simp [Value.ownBlock] at hb; have := HN2.out; simp; omega
  · intro b hb; simp [Value.ownBlock] at hb; have := HN3.out; simp; omega
  · intro x hx; simp at hx; subst hx; exact HX7.out
  · intro x hx; simp at hx; rcases hx with rfl | rfl
    · simp
    · exact HX8.out
  · intro x hx; simp at hx; subst hx; exact HX9.out
  · intro x hx; simp at hx; right; have := HR.out; omega
end Go.Proofs.YtfpkppgecmbglaaGreatDoor

namespace Go.Proofs.YtfpkppgecmbglaaGreatDoor
open Go.RowKit

theorem refValue_any (p : Pc) (hp : 1 ≤ p.kind ∧ p.kind ≤ 11 ∧ p.word ≤ 99) (v : Vs) (a b c : Value) (w : World) (hE : Env w) (hv : VsIn w v a b c) (hl : v.result.length ≤ 50000) : Calls Tryz.prog 48 #[.agg (gpC p.g), .agg (vsC v a b c)] w fun e w' => e = .returned (.string (bs (pieceL v p))) ∧ Kp [] w w' := by
  obtain ⟨k, t, n, m⟩ := p
  obtain ⟨h1, h2, h3⟩ := hp
  simp only at h1 h2 h3
  have hc : k = 1 ∨ k = 2 ∨ k = 3 ∨ k = 4 ∨ k = 5 ∨ k = 6 ∨ k = 7 ∨ k = 8 ∨ k = 9 ∨ k = 10 ∨ k = 11 := by omega
  rcases hc with rfl | rfl | rfl | rfl | rfl | rfl | rfl | rfl | rfl | rfl | rfl
  · exact val_1 t n m v a b c w
  · exact val_2 t n m v a b c w
  · exact val_3 t n m v a b c w hv.lk
  · exact val_4 t n m v a b c w
  · exact val_5 t n m v a b c w
  · exact val_6 t n m v a b c w
  · exact val_7 t n m v a b c w hv
  · exact val_8 t n m v a b c w hv
  · exact val_9 t n m v a b c w hE h3 hl
  · exact val_10 t n m v a b c w
  · exact val_11 t n m v a b c w
theorem getL_mem {n y : List UInt8} : ∀ {l : List Atb}, getL n l = some y → ∃ x ∈ l, x.2 = y
  | [], h => by cases h
  | x :: l, h => by
    unfold getL at h
    split at h
    · exact ⟨x, List.mem_cons_self .., Option.some.inj h⟩
    · obtain ⟨z, hz, e⟩ := getL_mem h
      exact ⟨z, List.mem_cons_of_mem _ hz, e⟩
theorem getL_len {n : List UInt8} {l : List Atb} {K : Nat} (h : ∀ x ∈ l, x.2.length ≤ K) : ((getL n l).getD []).length ≤ K := by
  cases hg : getL n l with
  | none => simp
  | some y =>
    obtain ⟨x, hx, e⟩ := getL_mem hg
    rw [Option.getD_some, ← e]
    exact h x hx
def bigB : Nat := 2600000000
theorem result_bd {s : List UInt8} {n : Nat} {m : Bool} (h : s.length ≤ 50000) : (resultL s n m).length ≤ bigB := by
  have hw := wordsL_len s
  have hb : 50001 * 50001 ≤ bigB := by decide
  have hb0 : 50000 ≤ bigB := by decide
  unfold resultL
  split
  · exact Nat.le_trans h hb0
  · split
    · have h1 := joinL_bd (K := 50000) ((wordsL s).drop (n - 1)) (fun x hx => by have := (hw.2 x (List.mem_of_mem_drop hx)).1; omega)
      have h2 : ((wordsL s).drop (n - 1)).length ≤ 50001 := by rw [List.length_drop]; have := hw.1; omega
      exact Nat.le_trans h1 (Nat.le_trans (Nat.mul_le_mul_right 50001 h2) hb)
    · cases hg : (wordsL s)[n - 1]? with
      | none => simp
      | some x =>
        have := (hw.2 x (List.mem_of_getElem? hg)).1
        rw [Option.getD_some]
        exact Nat.le_trans this (Nat.le_trans h hb0)
theorem piece_bd {v : Vs} {p : Pc} (hz : VSz 1048576 v) (hr : v.result.length ≤ 50000) (ht : p.text.length ≤ 65536) : (pieceL v p).length ≤ bigB := by
  have hb : 1048576 ≤ bigB := by decide
  have hb0 : 65536 ≤ bigB := by decide
  unfold pieceL
  split
  · exact Nat.le_trans ht hb0
  · exact Nat.le_trans hz.k hb
  · refine Nat.le_trans ?_ hb
    unfold numT
    rw [List.length_drop]
    have := hz.k
    omega
  · exact Nat.le_trans hz.d hb
  · exact Nat.le_trans hz.i hb
  · exact Nat.le_trans hz.r hb
  · refine Nat.le_trans ?_ hb
    cases hg : getL p.text v.attrs with
    | none => rw [Option.none_or]; exact getL_len hz.b
    | some y =>
      have := getL_len (n := p.text) hz.a
      rw [hg] at this
      rw [Option.some_or]
      exact this
  · exact Nat.le_trans (getL_len hz.c) hb
  · exact result_bd hr
  · exact Nat.le_trans hz.p hb
  · exact Nat.le_trans hz.n hb
theorem flat_bd {v : Vs} (hz : VSz 1048576 v) (hr : v.result.length ≤ 50000) : ∀ l : List Pc, (∀ p ∈ l, p.text.length ≤ 65536) → (l.flatMap (pieceL v)).length ≤ l.length * bigB
  | [], _ => by simp
  | p :: l, h => by
    rw [List.flatMap_cons, List.length_append, List.length_cons, Nat.add_mul, Nat.one_mul]
    have h1 := piece_bd hz hr (h p (List.mem_cons_self ..))
    have h2 := flat_bd hz hr l (fun q hq => h q (List.mem_cons_of_mem _ hq))
    omega
theorem no_ovb {x y : Nat} (hx : x ≤ 1000 * bigB) (hy : y ≤ bigB) : ¬ 9223372036854775807 < x + y := by
  unfold bigB at *
  omega
set_option maxHeartbeats 8000000 in
set_option maxRecDepth 100000 in
theorem refExpand_any {w : World} (hE : Env w) (s : List UInt8) (hs : s.length ≤ 1000000) (v : Vs) (a b c : Value) (hv : VsIn w v a b c) (hz : VSz 1048576 v) (hr : v.result.length ≤ 50000) :
    Calls Tryz.prog 22 #[.string (bs s), .agg (vsC v a b c)] w fun e w' => e = .returned (.tuple #[.string (bs (expandE s v).1), .int .i64 (expandE s v).2]) ∧ Kp [] w w' := by
  obtain ⟨V, hV⟩ : ∃ V, w.heap.size = V := ⟨_, rfl⟩
  obtain ⟨W0, hW0⟩ : ∃ W0, w.alloc (.cells (vsC v a b c) 43) = W0 := ⟨_, rfl⟩
  have hk0 : Kp [] w W0 := by rw [← hW0]; exact (Kp.refl [] w).alloc _
  have hvb : W0.heap[V]? = some (.cells (vsC v a b c) 43 (0, 0)) := by rw [← hW0, ← hV]; exact heap_alloc_last w _
  have HH := Lib.hid (show ∀ W, Kp [] W0 W → Hold W V v a b c from fun W h => (show Hold W0 V v a b c from ⟨hE.kp0 hk0, hv.kp0 hk0, hvb⟩).kp0 h)
  have HP := Lib.hid (refParse_any (hE.kp0 hk0) s (by omega))
  unfold ParsePost at HP
  obtain ⟨hread, hlen⟩ := parseE_read s
  have htx := parseE_text s
  unfold expandE
  obtain ⟨l, err, hle⟩ : ∃ l err, parseE s = (l, err) := ⟨_, _, rfl⟩
  rw [hle] at HP hread hlen htx ⊢
  simp only at HP hread hlen htx ⊢
  have HW0 := Lib.hid hW0
  have HK0 := Lib.hid hk0
  have HVe := Lib.hid hV
  unfold vsC at HW0 ⊢
  by_cases he : err ≠ 0
  · rw [if_neg he]
    have he' : (err != 0) = true := by simpa using he
    clear hE hle hW0 hk0 hvb hV hv
    go_enter Tryz.func22, Tryz.ntmps22
    go_upto_region 1 with fail
    rw [HVe.out, HW0.out]
    go_wp2_with (go_at_call 14; refine Calls.mono (by with_reducible exact HP.out) ?_; rintro e w1 ⟨lv, rfl, ho, hk1⟩)
    go_ret2
    exact ⟨rfl, HK0.out.trans hk1⟩
  have he := Decidable.of_not_not he
  rw [if_pos he]
  subst he
  have HRd := Lib.hid hread
  have HTx := Lib.hid htx
  have HFB := Lib.hid (show ∀ i, i ≤ 256 → ((l.take i).flatMap (pieceL v)).length ≤ 1000 * bigB from fun i hi => by
    have h1 := flat_bd hz hr (l.take i) (fun p hp => htx p (List.mem_of_mem_take hp))
    have h2 : (l.take i).length ≤ 1000 := by rw [List.length_take]; omega
    exact Nat.le_trans h1 (Nat.mul_le_mul_right _ h2))
  have HPB := Lib.hid (show ∀ p ∈ l, (pieceL v p).length ≤ bigB from fun p hp => piece_bd hz hr (htx p hp))
  have HVal := Lib.hid (fun (p : Pc) (hp : p ∈ l) W (h : Kp [] W0 W) => refValue_any p (hread p hp).k v a b c W (HH.out W h).1 (HH.out W h).2.1 hr)
  obtain ⟨N, hN⟩ : ∃ N, l.length = N := ⟨_, rfl⟩
  rw [hN] at hlen
  have HN := Lib.hid hN
  clear hE hle hW0 hk0 hvb hV hv hread htx hz hr hN
  go_enter Tryz.func22, Tryz.ntmps22
  go_upto_region 1 with fail
  rw [HVe.out, HW0.out]
  go_upto_region 2 with (go_at_call 14; refine Calls.mono (by with_reducible exact HP.out) ?_; rintro e w1 ⟨lv, rfl, ho, hk1⟩; have HL := Lib.hid ho.has; have HK1 := Lib.hid hk1; clear ho hk1)
  obtain ⟨la, lc, rfl, hlr⟩ := HL.out.form
  have HLR := Lib.hid hlr
  rw [List.length_map, HN.out]
  clear hlr HL HP
  go_wp2
  go_loopg [8, 9] N (fun g s8 s9 wx => ∃ i : Nat, s8 = .string (bs ((l.take i).flatMap (pieceL v))) ∧ s9 = .int .i64 (i : Int) ∧ i + g = N ∧ Hid (Kp [] w1 wx))
  case atStart => exact ⟨0, rfl, rfl, by omega, Lib.hid (Kp.refl _ _)⟩
  case round =>
    obtain ⟨i, rfl, rfl, hig, hk⟩ := hrel
    cases gk with
    | zero =>
      have hlt : ¬ ((i : Int) < (N : Int)) := by omega
      have HCt := Lib.hid (fun W => refCut_any (l.flatMap (pieceL v)) W)
      rw [List.take_of_length_le (show l.length ≤ i by rw [HN.out]; omega)]
      go_wp2_with (go_at_call 49; refine Calls.mono (by with_reducible exact HCt.out _) ?_; rintro e w2 ⟨rfl, hk2⟩)
      go_ret2
      exact ⟨rfl, HK0.out.trans (HK1.out.trans (hk.out.trans hk2))⟩
    | succ gk =>
      have HIG := Lib.hid hig
      have hlt : (i : Int) < (N : Int) := by omega
      have hi2 : i ≤ 256 := by omega
      obtain ⟨⟨pk, pt, pw, pm⟩, hq⟩ : ∃ q, l[i]? = some q := ⟨_, List.getElem?_eq_getElem (by rw [HN.out]; omega)⟩
      obtain ⟨bl, ol, rfl, hbl, hrow⟩ := HLR.out (by intro e; have := congrArg List.length e; simp at this; have h2 := HN.out; rw [this] at h2; simp at h2; omega)
      have hrow2 : gpT.Row wr bl ol (l.map Pc.g) := hrow.keep (hk.out.block bl hbl (by simp))
      have hqm := List.mem_of_getElem? hq
      have HRW := Lib.hid (show ∀ W, Kp [] wr W → W.cell? ⟨bl, ol + i * 4, none⟩ = some (.int .i64 (pk : Int)) ∧ W.cell? ⟨bl, ol + i * 4 + 1, none⟩ = some (.string (bs pt)) ∧ W.cell? ⟨bl, ol + i * 4 + 2, none⟩ = some (.int .i64 (pw : Int)) ∧ W.cell? ⟨bl, ol + i * 4 + 3, none⟩ = some (.bool pm) from fun W h =>
        gpRow (hrow2.keep (h.block bl (Nat.lt_of_lt_of_le hbl hk.out.size) (by simp))) (j := i) (x := (⟨pk, pt, pw, pm⟩ : Pc).g) (by rw [List.getElem?_map, hq]; rfl))
      have HCe := Lib.hid (show ∀ W, Kp [] wr W → Hold W V v a b c from fun W h => HH.out W (HK1.out.trans (hk.out.trans h)))
      have HVa := Lib.hid (show ∀ W, Kp [] wr W → Calls Tryz.prog 48 #[.agg #[.int .i64 (pk : Int), .string (bs pt), .int .i64 (pw : Int), .bool pm], .agg #[.string (bs v.kernel), .string (bs v.devpath), .string (bs v.id), .string (bs v.driver), .string (bs v.parent), .string (bs v.name), .string (bs v.result), a, b, c]] W (fun e w' => e = .returned (.string (bs (pieceL v ⟨pk, pt, pw, pm⟩))) ∧ Kp [] W w') from fun W h => HVal.out _ hqm W (HK1.out.trans (hk.out.trans h)))
      have HNX := Lib.hid (show (l.take (i + 1)).flatMap (pieceL v) = (l.take i).flatMap (pieceL v) ++ pieceL v ⟨pk, pt, pw, pm⟩ from by
        rw [List.take_add_one, hq, Option.toList_some, List.flatMap_append, List.flatMap_cons, List.flatMap_nil, List.append_nil])
      have HOV := Lib.hid (no_ovb (HFB.out i hi2) (HPB.out _ hqm))
      have HK := Lib.hid hk.out
      generalize (l.take i).flatMap (pieceL v) = out at *
      generalize pieceL v ⟨pk, pt, pw, pm⟩ = pv at *
      clear hq hrow hrow2 hqm hk hbl
      go_upto_region 8 with fail
      refine wp_region_held_drew (S := fun W => Kp [] wr W) (by kernel_rfl) (show Kp [] wr wr.drew from (Kp.refl [] wr).drew 1) (fun hHeld => ?_)
      generalize hwd : wr.drew = wd at *
      clear hwd
      refine wpAnyH_take (i := 0) (oi := { dst := some 24, op := Op.move (Operand.tmp 8), type := 9, pos := "ref.go:259", after := #[], guard := none }) (v := .string (bs out)) rfl (by kernel_rfl) (by kernel_rfl) (by kernel_rfl) (fun _ _ _ h => h) (Or.inl ⟨by rfl, fun w hSw => by (try dsimp only at hSw); go_simp⟩) hHeld ?_
      try simp only [Act.put, List.setIfInBounds_toArray, List.set_cons_zero, List.set_cons_succ]
      refine wpAnyH_take (i := 1) (oi := { dst := some 25, op := Op.move (Operand.tmp 6), type := 29, pos := "ref.go:259", after := #[], guard := none }) (v := .slice (some ⟨bl, ol, none⟩) N lc) rfl (by kernel_rfl) (by kernel_rfl) (by kernel_rfl) (fun _ _ _ h => h) (Or.inl ⟨by rfl, fun w hSw => by (try dsimp only at hSw); go_simp⟩) hHeld ?_
      try simp only [Act.put, List.setIfInBounds_toArray, List.set_cons_zero, List.set_cons_succ]
      refine wpAnyH_take (i := 2) (oi := { dst := some 26, op := Op.move (Operand.tmp 9), type := 3, pos := "ref.go:259", after := #[], guard := none }) (v := .int .i64 (i : Int)) rfl (by kernel_rfl) (by kernel_rfl) (by kernel_rfl) (fun _ _ _ h => h) (Or.inl ⟨by rfl, fun w hSw => by (try dsimp only at hSw); go_simp⟩) hHeld ?_
      try simp only [Act.put, List.setIfInBounds_toArray, List.set_cons_zero, List.set_cons_succ]
      refine wpAnyH_take (i := 3) (oi := { dst := some 27, op := Op.indexAddr 29 (Operand.tmp 25) (Operand.tmp 26), type := 0, pos := "ref.go:259", after := #[{ on := 1, ground := Ground.data }, { on := 2, ground := Ground.data }], guard := none }) (v := .pointer (some ⟨bl, ol + i * 4, none⟩)) rfl (by kernel_rfl) (by kernel_rfl) (by kernel_rfl) (fun _ _ _ h => h) (Or.inl ⟨by rfl, fun w hSw => by (try dsimp only at hSw); go_simp⟩) hHeld ?_
      try simp only [Act.put, List.setIfInBounds_toArray, List.set_cons_zero, List.set_cons_succ]
      refine wpAnyH_take (i := 4) (oi := { dst := some 28, op := Op.load 61 (Operand.tmp 27), type := 61, pos := "ref.go:259", after := #[{ on := 3, ground := Ground.data }], guard := none }) (v := .agg #[.int .i64 (pk : Int), .string (bs pt), .int .i64 (pw : Int), .bool pm]) rfl (by kernel_rfl) (by kernel_rfl) (by kernel_rfl) (fun _ _ _ h => h) (Or.inl ⟨by rfl, fun w hSw => by (try dsimp only at hSw); obtain ⟨e0, e1, e2, e3⟩ := HRW.out _ hSw; go_simp⟩) hHeld ?_
      try simp only [Act.put, List.setIfInBounds_toArray, List.set_cons_zero, List.set_cons_succ]
      refine wpAnyH_take (i := 5) (oi := { dst := some 29, op := Op.load 43 (Operand.tmp 3), type := 43, pos := "ref.go:259", after := #[], guard := none }) (v := .agg #[.string (bs v.kernel), .string (bs v.devpath), .string (bs v.id), .string (bs v.driver), .string (bs v.parent), .string (bs v.name), .string (bs v.result), a, b, c]) rfl (by kernel_rfl) (by kernel_rfl) (by kernel_rfl) (fun _ _ _ h => h) (Or.inl ⟨by rfl, fun w hSw => by (try dsimp only at hSw); obtain ⟨c0, c1, c2, c3, c4, c5, c6, c7, c8, c9⟩ := (HCe.out _ hSw).cells; go_simp⟩) hHeld ?_
      try simp only [Act.put, List.setIfInBounds_toArray, List.set_cons_zero, List.set_cons_succ]
      refine wpAnyH_ready (rs := [6]) (by kernel_rfl) (by simp) ?_
      refine AllReadyH.cons (o := { dst := some 30, op := Op.call { callee := Callee.value (Operand.func 48), args := #[Operand.tmp 28, Operand.tmp 29], argTypes := #[61, 43] }, type := 9, pos := "ref.go:259", after := #[{ on := 4, ground := Ground.data }, { on := 5, ground := Ground.data }], guard := none }) rfl (fun K hK => ?_) AllReadyH.nil
      go_simp
      go_at_call 48
      refine Calls.mono (by with_reducible exact HVa.out _ hHeld) ?_
      rintro e V1 ⟨rfl, hkv⟩
      dsimp only
      have hS := hHeld.trans hkv
      clear hkv
      clear hHeld
      refine hK.out _ _ hS (fun hHeld => ?_)
      try simp only [Act.put, List.setIfInBounds_toArray, List.set_cons_zero, List.set_cons_succ]
      clear hK
      clear hS
      refine wpAnyH_take (i := 7) (oi := { dst := some 31, op := Op.binOp BinOp.add 9 (Operand.tmp 24) (Operand.tmp 30) 9, type := 9, pos := "ref.go:259", after := #[{ on := 0, ground := Ground.data }, { on := 6, ground := Ground.data }], guard := none }) (v := .string (bs out ++ bs pv)) rfl (by kernel_rfl) (by kernel_rfl) (by kernel_rfl) (fun _ _ _ h => h) (Or.inl ⟨by rfl, fun w hSw => by (try dsimp only at hSw); have hov : ¬ 9223372036854775807 < (bs out).size + (bs pv).size := HOV.out; go_simp⟩) hHeld ?_
      try simp only [Act.put, List.setIfInBounds_toArray, List.set_cons_zero, List.set_cons_succ]
      refine wpAnyH_take (i := 8) (oi := { dst := some 8, op := Op.assign (Operand.tmp 31), type := 9, pos := "ref.go:259", after := #[{ on := 7, ground := Ground.data }, { on := 6, ground := Ground.chain }, { on := 0, ground := Ground.phase }, { on := 1, ground := Ground.phase }, { on := 2, ground := Ground.phase }, { on := 3, ground := Ground.phase }, { on := 4, ground := Ground.phase }, { on := 5, ground := Ground.phase }, { on := 6, ground := Ground.phase }, { on := 7, ground := Ground.phase }], guard := none }) (v := .string (bs out ++ bs pv)) rfl (by kernel_rfl) (by kernel_rfl) (by kernel_rfl) (fun _ _ _ h => h) (Or.inl ⟨by rfl, fun w hSw => by (try dsimp only at hSw); go_simp⟩) hHeld ?_
      try simp only [Act.put, List.setIfInBounds_toArray, List.set_cons_zero, List.set_cons_succ]
      have HSe := Lib.hid hHeld
      refine wpAnyH_done (by kernel_rfl) ?_ _
      clear hHeld
      rw [bs_app]
      go_wp2
      go_roundg gk
      case measure => omega
      case rel => exact ⟨i + 1, by rw [HNX.out], by go_num, by have := HIG.out; omega, Lib.hid (HK.out.trans HSe.out)⟩
end Go.Proofs.YtfpkppgecmbglaaGreatDoor

namespace Go.Proofs.YtfpkppgecmbglaaGreatDoor
open Go.RowKit

theorem Ints.up {w w' : World} {tb tb' : Nat} {lv : Value} (h : Ints w tb lv) (ht : tb ≤ tb') (hk : ∀ b, b < tb → w'.heap[b]? = w.heap[b]?) : Ints w' tb' lv := by
  rcases h with h | ⟨b, o, n, c, hv, hb, hz⟩
  · exact .inl h
  · refine .inr ⟨b, o, n, c, hv, by omega, fun j hj => ?_⟩
    obtain ⟨z, hz⟩ := hz j hj
    refine ⟨z, ?_⟩
    simp only [World.cell?, hk b hb] at hz ⊢
    exact hz
theorem wrap_two {x y : Nat} (hx : x ≤ 1048576) (hy : y ≤ 1048576) : wrap64 ((x : Int) + (y : Int)) = (x : Int) + (y : Int) := by unfold wrap64; omega
theorem wrap_three {x y z : Nat} (hx : x ≤ 1048576) (hy : y ≤ 1048576) (hz : z ≤ 1048576) : wrap64 ((x : Int) + (y : Int) + (z : Int)) = (x : Int) + (y : Int) + (z : Int) := by unfold wrap64; omega
set_option maxHeartbeats 16000000 in
set_option maxRecDepth 100000 in
theorem substituteExpands_walk (st : ByteArray) (v : Vs) (va vb vc : Value) (a : Option Addr) (n c : Nat) (w : World) (hE : Env w) (_hsz : st.size ≤ 1048576) (h0 : atT.Has w va v.attrs ∧ atT.Has w vb v.above ∧ atT.Has w vc v.env ∧ (v.attrs.length ≤ 1048576 ∧ v.above.length ≤ 1048576 ∧ v.env.length ≤ 1048576) ∧ VSz 1048576 v) (g : Ints w w.heap.size (.slice a n c)) : Calls Tryz.prog 5 #[.string st, .agg (vsC v va vb vc), .slice a n c] w fun e w' => e = .returned (.bool true) ∧ Below w.heap.size w w' := by
  obtain ⟨ha, hb, hc, ⟨la, lb, lc⟩, hz⟩ := h0
  obtain ⟨raw, rfl⟩ : ∃ raw : List UInt8, st = bs raw := ⟨st.data.toList, (bs_of st).symm⟩
  obtain ⟨sa, ca, rfl, -⟩ := ha.form
  obtain ⟨sb, cb, rfl, -⟩ := hb.form
  obtain ⟨sc, cc, rfl, -⟩ := hc.form
  obtain ⟨V, hV⟩ : ∃ V, w.heap.size = V := ⟨_, rfl⟩
  obtain ⟨W0, hW0⟩ : ∃ W0, w.alloc (.cells #[.string (bs v.kernel), .string (bs v.devpath), .string (bs v.id), .string (bs v.driver), .string (bs v.parent), .string (bs v.name), .string (bs v.result), .slice sa v.attrs.length ca, .slice sb v.above.length cb, .slice sc v.env.length cc] 43) = W0 := ⟨_, rfl⟩
  have hk0 : Kp [] w W0 := by rw [← hW0]; exact (Kp.refl [] w).alloc _
  have hVb : W0.heap[V]? = some (.cells (vsC v (.slice sa v.attrs.length ca) (.slice sb v.above.length cb) (.slice sc v.env.length cc)) 43 (0, 0)) := by rw [← hW0, ← hV]; exact heap_alloc_last w _
  have hin0 : VsIn W0 v (.slice sa v.attrs.length ca) (.slice sb v.above.length cb) (.slice sc v.env.length cc) := ⟨ha.kp0 hk0, hb.kp0 hk0, hc.kp0 hk0, by omega, by omega, by omega, by have := hz.k; omega, by have := hz.t; omega⟩
  have HKN := Lib.hid (fun W (h : Kp [] W0 W) => known_any ((hE.kp0 hk0).kp0 h))
  have HK0 := Lib.hid hk0
  have HCV := Lib.hid (show ∀ W, Kp [] W0 W → (W.cell? ⟨V, 6, none⟩ = some (.string (bs v.result)) ∧ W.cell? ⟨V, 7, none⟩ = some (.slice sa v.attrs.length ca) ∧ W.cell? ⟨V, 8, none⟩ = some (.slice sb v.above.length cb) ∧ W.cell? ⟨V, 9, none⟩ = some (.slice sc v.env.length cc)) from fun W h => by
    have h1 := (h.block V (block_lt hVb) (by simp)).trans hVb
    refine ⟨?_, ?_, ?_, ?_⟩ <;> (rw [cell_of_row _ _ _ _ _ _ h1]; rfl))
  obtain ⟨c6, c7, c8, c9⟩ := HCV.out W0 (Kp.refl [] W0)
  have HVe := Lib.hid hV
  have HW0 := Lib.hid hW0
  have hrs : (bs raw).size = raw.length := rfl
  have hvs : (bs v.result).size = v.result.length := rfl
  have hw2 := wrap_two la lb
  have hw3 := wrap_three la lb lc
  have HW2 := Lib.hid hw2
  have HW3 := Lib.hid hw3
  clear hw2 hw3
  by_cases hbig : 600 < raw.length ∨ 3000 < v.result.length ∨ 100 < v.attrs.length + v.above.length + v.env.length
  · have HKF := Lib.hid (HKN.out W0 (Kp.refl [] W0))
    have HKB := Lib.hid (show Below w.heap.size w W0 from HK0.out.below (Nat.le_refl _) (by simp))
    clear hE hk0 hVb hin0 ha hb hc hz hW0 g hV
    unfold vsC
    by_cases h1 : 600 < raw.length
    · have hz1 : (600 : Int) < (raw.length : Int) := by omega
      clear hbig
      go_enter Tryz.func5, Tryz.ntmps5
      go_upto_region 1 with fail
      rw [HVe.out, HW0.out]
      go_wp2_with (go_at_call 11; refine Calls.mono (by with_reducible exact HKF.out) ?_; rintro r w1 ⟨rfl, hkp⟩)
      go_ret
      exact ⟨rfl, (HK0.out.trans hkp).below (Nat.le_refl _) (by simp)⟩
    have hz1 : ¬ (600 : Int) < (raw.length : Int) := by omega
    by_cases h2 : 3000 < v.result.length
    · have hz2 : (3000 : Int) < (v.result.length : Int) := by omega
      clear hbig
      go_enter Tryz.func5, Tryz.ntmps5
      go_upto_region 1 with fail
      rw [HVe.out, HW0.out]
      go_wp2_with (go_at_call 11; refine Calls.mono (by with_reducible exact HKF.out) ?_; rintro r w1 ⟨rfl, hkp⟩)
      go_ret
      exact ⟨rfl, (HK0.out.trans hkp).below (Nat.le_refl _) (by simp)⟩
    have hz2 : ¬ (3000 : Int) < (v.result.length : Int) := by omega
    have hz3 : (100 : Int) < (v.attrs.length : Int) + (v.above.length : Int) + (v.env.length : Int) := by omega
    clear hbig
    have hw2 := HW2.out
    have hw3 := HW3.out
    go_enter Tryz.func5, Tryz.ntmps5
    go_upto_region 1 with fail
    rw [HVe.out, HW0.out]
    go_wp2_with (go_at_call 11; refine Calls.mono (by with_reducible exact HKF.out) ?_; rintro r w1 ⟨rfl, hkp⟩)
    go_ret
    exact ⟨rfl, (HK0.out.trans hkp).below (Nat.le_refl _) (by simp)⟩
  have hz1 : ¬ (600 : Int) < (raw.length : Int) := by omega
  have hz2 : ¬ (3000 : Int) < (v.result.length : Int) := by omega
  have hz3 : ¬ (100 : Int) < (v.attrs.length : Int) + (v.above.length : Int) + (v.env.length : Int) := by omega
  have HRL := Lib.hid (show raw.length ≤ 600 by omega)
  have HRr := Lib.hid (show v.result.length ≤ 50000 by omega)
  obtain ⟨tb, htb⟩ : ∃ tb, W0.heap.size = tb := ⟨_, rfl⟩
  obtain ⟨W1, hW1⟩ : ∃ W1, W0.alloc (.cells #[.slice a n c, .int .i64 0] 27) = W1 := ⟨_, rfl⟩
  have hk1 : Kp [] W0 W1 := by rw [← hW1]; exact (Kp.refl [] W0).alloc _
  have hVtb : V < tb := by rw [← htb]; exact block_lt hVb
  have hT1 : Tp W1 tb 0 := ⟨_, by rw [← hW1, ← htb]; exact heap_alloc_last W0 _, g.up (by omega) fun b hb => ((hk0.trans hk1).block b hb (by simp))⟩
  have h8 : 8 ≤ V := by rw [← hV]; exact hE.size
  have HE := Lib.hid (show ∀ W, Kp [tb] W0 W → Env W from fun W hk => (hE.kp0 hk0).kp hk (by intro x hx; simp at hx; omega))
  have HIn := Lib.hid (show ∀ W, Kp [tb] W0 W → VsIn W v (.slice sa v.attrs.length ca) (.slice sb v.above.length cb) (.slice sc v.env.length cc) from fun W hk => by
    have hown : ∀ (y : Value) (l : List Atb), atT.Has w y l → l ≠ [] → ∀ b, y.ownBlock = some b → b < V := fun y l hy hne b hb => by
      rcases hy with ⟨a', c', h1, h2⟩ | ⟨b', o', c', h1, h2, h3⟩
      · exact absurd h2 hne
      · rw [h1] at hb; simp [Value.ownBlock] at hb; omega
    have hmv : ∀ (y : Value) (l : List Atb), atT.Has w y l → atT.Has W y l := fun y l hy => by
      by_cases hne : l = []
      · subst hne
        rcases hy with ⟨a', c', h1, h2⟩ | ⟨b', o', c', h1, h2, h3⟩
        · exact .inl ⟨a', c', h1, h2⟩
        · exact .inl ⟨_, _, h1, rfl⟩
      · exact (hy.kp0 hk0).kp hk (fun b hb => by have := hown y l hy hne b hb; simp; omega)
    exact ⟨hmv _ _ ha, hmv _ _ hb, hmv _ _ hc, hin0.la, hin0.lb, hin0.lc, hin0.lk, hin0.lr⟩)
  have HVk := Lib.hid (show ∀ W, Kp [tb] W0 W → W.heap[V]? = some (.cells (vsC v (.slice sa v.attrs.length ca) (.slice sb v.above.length cb) (.slice sc v.env.length cc)) 43 (0, 0)) from fun W hk => (hk.block V (block_lt hVb) (by simp; omega)).trans hVb)
  have HK1 := Lib.hid (hk1.mono (t := [tb]) (by simp))
  have HTm := Lib.hid (template_any true (by omega) hT1)
  unfold TemplPost at HTm
  have HTb := Lib.hid htb
  have HW1 := Lib.hid hW1
  have HZ := Lib.hid hz
  have Hwtb := Lib.hid (show w.heap.size ≤ tb by omega)
  clear hE hk0 hVb hin0 ha hb hc hz hW0 g hk1 hT1 h8 hW1 hbig HKN htb hV
  unfold vsC
  have hw2 := HW2.out
  have hw3 := HW3.out
  go_enter Tryz.func5, Tryz.ntmps5
  go_upto_region 1 with fail
  rw [HVe.out, HW0.out]
  go_upto_region 3 with fail
  clear c6 c7 c8 c9 hw2 hw3 hz1 hz2 hz3
  go_upto_region 4 with fail
  rw [HTb.out, HW1.out]
  go_wp2_with fail
  refine Calls.mono (by with_reducible exact HTm.out) ?_
  rintro e w3 ⟨t, q, htl, hq, rfl, hT3, hk3⟩
  obtain ⟨L, hL⟩ : ∃ L, w3.heap.size = L := ⟨_, rfl⟩
  obtain ⟨W4, hW4⟩ : ∃ W4, w3.alloc (.cells #[.string (bs raw), .string (bs t)] 9) = W4 := ⟨_, rfl⟩
  have hk4 : Kp [] w3 W4 := by rw [← hW4]; exact (Kp.refl [] w3).alloc _
  have hLb : W4.heap[L]? = some (.cells #[.string (bs raw), .string (bs t)] 9 (0, 0)) := by rw [← hW4, ← hL]; exact heap_alloc_last w3 _
  have hKw4 := HK1.out.trans (hk3.trans (hk4.mono (by simp)))
  have HT4 := Lib.hid (hT3.kp hk4 (by simp))
  have htbL : tb < L := by have := hT3.lt; omega
  have HVls := Lib.hid (values_bd (by omega) HT4.out)
  unfold ValsPostB at HVls
  have HL := Lib.hid hL
  have HW4 := Lib.hid hW4
  have HK4 := Lib.hid hKw4
  have HLb := Lib.hid hLb
  clear hT3 hk3 hk4 hLb hW4 hL hKw4 HTm HTb HW1
  go_upto_region 5 with fail
  rw [HL.out, HW4.out]
  go_wp2_with fail
  refine Calls.mono (by with_reducible exact HVls.out) ?_
  rintro e w5 ⟨o, ua, ub, uc, rfl, hino, hzo, hk5⟩
  obtain ⟨oa, pa, rfl, -⟩ := hino.ha.form
  obtain ⟨ob, pb, rfl, -⟩ := hino.hb.form
  obtain ⟨oc, pc, rfl, -⟩ := hino.hc.form
  unfold vsC
  obtain ⟨O, hO⟩ : ∃ O, w5.heap.size = O := ⟨_, rfl⟩
  obtain ⟨W6, hW6⟩ : ∃ W6, w5.alloc (.cells #[.string (bs o.kernel), .string (bs o.devpath), .string (bs o.id), .string (bs o.driver), .string (bs o.parent), .string (bs o.name), .string (bs o.result), .slice oa o.attrs.length pa, .slice ob o.above.length pb, .slice oc o.env.length pc] 43) = W6 := ⟨_, rfl⟩
  have hk6 : Kp [] w5 W6 := by rw [← hW6]; exact (Kp.refl [] w5).alloc _
  have hOb : W6.heap[O]? = some (.cells (vsC o (.slice oa o.attrs.length pa) (.slice ob o.above.length pb) (.slice oc o.env.length pc)) 43 (0, 0)) := by rw [← hW6, ← hO]; exact heap_alloc_last w5 _
  have hkw6 : Kp [tb] W0 W6 := HK4.out.trans (hk5.trans (hk6.mono (by simp)))
  have hL6 : W6.heap[L]? = some (.cells #[.string (bs raw), .string (bs t)] 9 (0, 0)) := ((hk5.trans (hk6.mono (by simp))).block L (block_lt HLb.out) (by simp; omega)).trans HLb.out
  have HK6 := Lib.hid hkw6
  have HHv := Lib.hid (show ∀ W, Kp [] W6 W → Hold W V v (.slice sa v.attrs.length ca) (.slice sb v.above.length cb) (.slice sc v.env.length cc) from fun W h => (show Hold W6 V v (.slice sa v.attrs.length ca) (.slice sb v.above.length cb) (.slice sc v.env.length cc) from ⟨HE.out _ hkw6, HIn.out _ hkw6, HVk.out _ hkw6⟩).kp0 h)
  have HHo := Lib.hid (show ∀ W, Kp [] W6 W → Hold W O o (.slice oa o.attrs.length pa) (.slice ob o.above.length pb) (.slice oc o.env.length pc) from fun W h => (show Hold W6 O o (.slice oa o.attrs.length pa) (.slice ob o.above.length pb) (.slice oc o.env.length pc) from ⟨HE.out _ hkw6, hino.kp0 hk6, hOb⟩).kp0 h)
  have HRO := Lib.hid (show o.result.length ≤ 50000 by have := hzo.out.t; omega)
  have HZO := Lib.hid (show VSz 1048576 o from ⟨by have := hzo.out.k; omega, by have := hzo.out.d; omega, by have := hzo.out.i; omega, by have := hzo.out.r; omega, by have := hzo.out.p; omega, by have := hzo.out.n; omega, by have := hzo.out.t; omega, fun x hx => by have := hzo.out.a x hx; omega, fun x hx => by have := hzo.out.b x hx; omega, fun x hx => by have := hzo.out.c x hx; omega⟩)
  have HROW := Lib.hid (show ∀ i, i < 2 → ∃ x : List UInt8, x.length ≤ 600 ∧ ∀ W, Kp [] W6 W → W.cell? ⟨L, i, none⟩ = some (.string (bs x)) from fun i hi => by
    have hr := HRL.out
    have h01 : i = 0 ∨ i = 1 := by omega
    rcases h01 with rfl | rfl
    · exact ⟨raw, hr, fun W hk => by rw [cell_of_row _ _ _ _ _ _ ((hk.block L (block_lt hL6) (by simp)).trans hL6)]; rfl⟩
    · exact ⟨t, by omega, fun W hk => by rw [cell_of_row _ _ _ _ _ _ ((hk.block L (block_lt hL6) (by simp)).trans hL6)]; rfl⟩)
  have HKN := Lib.hid (fun W (h : Kp [] W6 W) => known_any ((HHv.out W h).1))
  have HO := Lib.hid hO
  have HW6 := Lib.hid hW6
  clear hino hzo hk5 hk6 hOb hkw6 hL6 hO hW6 HVls HE HIn HVk HK4 HLb HT4
  go_upto_region 6 with fail
  rw [HO.out, HW6.out]
  go_wp2
  go_loopg [10, 11, 12, 13, 14, 15, 16, 17, 18] 2 (fun g s10 s11 s12 s13 s14 s15 s16 s17 s18 wx => ∃ i : Nat, s10 = .int .i64 (i : Int) ∧ i + g = 2 ∧ Hid (Kp [] W6 wx))
  case atStart => exact ⟨0, rfl, by omega, Lib.hid (Kp.refl _ _)⟩
  case round =>
    obtain ⟨i, rfl, hig, HK⟩ := hrel
    have HIG := Lib.hid hig
    cases gk with
    | zero =>
      have hiz : ¬ (i : Int) < (2 : Int) := by omega
      have HKF := Lib.hid (HKN.out _ HK.out)
      clear hig
      go_wp2_with (go_at_call 11; refine Calls.mono (by with_reducible exact HKF.out) ?_; rintro r w7 ⟨rfl, hkp⟩; have HK7 := Lib.hid (HK.out.trans hkp); clear hkp)
      go_ret
      exact ⟨rfl, ((HK0.out.mono (by simp)).trans (HK6.out.trans (HK7.out.mono (t := [tb]) (by simp)))).below (Nat.le_refl _) (by intro x hx; simp at hx; subst hx; exact Hwtb.out)⟩
    | succ gk =>
      have hil : i < 2 := by omega
      have hiz : (i : Int) < (2 : Int) := by omega
      obtain ⟨x, hxl, hx⟩ := HROW.out i hil
      have HCL := Lib.hid hx
      have HP1 := Lib.hid (show ∀ W, Kp [] W6 W → Calls Tryz.prog 21 #[.string (bs x), .agg #[.string (bs v.kernel), .string (bs v.devpath), .string (bs v.id), .string (bs v.driver), .string (bs v.parent), .string (bs v.name), .string (bs v.result), .slice sa v.attrs.length ca, .slice sb v.above.length cb, .slice sc v.env.length cc]] W (fun e w' => e = .returned (.tuple #[.string (bs (expandE x v).1), .int .i64 (expandE x v).2]) ∧ Kp [] W w') from fun W h => expand_any (HHv.out W h).1 x (by omega) v (.slice sa v.attrs.length ca) (.slice sb v.above.length cb) (.slice sc v.env.length cc) (.inl (HHv.out W h).2.1))
      have HP2 := Lib.hid (show ∀ W, Kp [] W6 W → Calls Tryz.prog 22 #[.string (bs x), .agg #[.string (bs v.kernel), .string (bs v.devpath), .string (bs v.id), .string (bs v.driver), .string (bs v.parent), .string (bs v.name), .string (bs v.result), .slice sa v.attrs.length ca, .slice sb v.above.length cb, .slice sc v.env.length cc]] W (fun e w' => e = .returned (.tuple #[.string (bs (expandE x v).1), .int .i64 (expandE x v).2]) ∧ Kp [] W w') from fun W h => refExpand_any (HHv.out W h).1 x (by omega) v (.slice sa v.attrs.length ca) (.slice sb v.above.length cb) (.slice sc v.env.length cc) (HHv.out W h).2.1 HZ.out HRr.out)
      have HP3 := Lib.hid (show ∀ W, Kp [] W6 W → Calls Tryz.prog 21 #[.string (bs x), .agg #[.string (bs o.kernel), .string (bs o.devpath), .string (bs o.id), .string (bs o.driver), .string (bs o.parent), .string (bs o.name), .string (bs o.result), .slice oa o.attrs.length pa, .slice ob o.above.length pb, .slice oc o.env.length pc]] W (fun e w' => e = .returned (.tuple #[.string (bs (expandE x o).1), .int .i64 (expandE x o).2]) ∧ Kp [] W w') from fun W h => expand_any (HHo.out W h).1 x (by omega) o (.slice oa o.attrs.length pa) (.slice ob o.above.length pb) (.slice oc o.env.length pc) (.inl (HHo.out W h).2.1))
      have HP4 := Lib.hid (show ∀ W, Kp [] W6 W → Calls Tryz.prog 22 #[.string (bs x), .agg #[.string (bs o.kernel), .string (bs o.devpath), .string (bs o.id), .string (bs o.driver), .string (bs o.parent), .string (bs o.name), .string (bs o.result), .slice oa o.attrs.length pa, .slice ob o.above.length pb, .slice oc o.env.length pc]] W (fun e w' => e = .returned (.tuple #[.string (bs (expandE x o).1), .int .i64 (expandE x o).2]) ∧ Kp [] W w') from fun W h => refExpand_any (HHo.out W h).1 x (by omega) o (.slice oa o.attrs.length pa) (.slice ob o.above.length pb) (.slice oc o.env.length pc) (HHo.out W h).2.1 HZO.out HRO.out)
      generalize expandE x v = E1 at *
      generalize expandE x o = E2 at *
      obtain ⟨s1, e1⟩ := E1
      obtain ⟨s2, e2⟩ := E2
      simp only at HP1 HP2 HP3 HP4
      clear hig hil hx hxl
      go_upto_region 9 with fail
      refine wp_region_held_drew (S := fun W => Kp [] W6 W) (by kernel_rfl) (show Kp [] W6 wr.drew from HK.out.drew 1) (fun hHeld => ?_)
      refine wpAnyH_take (i := 0) (oi := { dst := some 59, op := Op.move (Operand.tmp 8), type := 28, pos := "law.go:119", after := #[], guard := none }) (v := .slice (some ⟨L, 0, none⟩) 2 2) rfl (by kernel_rfl) (by kernel_rfl) (by kernel_rfl) (fun _ _ _ h => h) (Or.inl ⟨by rfl, fun w hSw => by (try dsimp only at hSw); go_simp⟩) hHeld ?_
      try simp only [Act.put, List.setIfInBounds_toArray, List.set_cons_zero, List.set_cons_succ]
      refine wpAnyH_take (i := 1) (oi := { dst := some 60, op := Op.move (Operand.tmp 10), type := 3, pos := "law.go:119", after := #[], guard := none }) (v := .int .i64 (i : Int)) rfl (by kernel_rfl) (by kernel_rfl) (by kernel_rfl) (fun _ _ _ h => h) (Or.inl ⟨by rfl, fun w hSw => by (try dsimp only at hSw); go_simp⟩) hHeld ?_
      try simp only [Act.put, List.setIfInBounds_toArray, List.set_cons_zero, List.set_cons_succ]
      refine wpAnyH_take (i := 2) (oi := { dst := some 61, op := Op.indexAddr 28 (Operand.tmp 59) (Operand.tmp 60), type := 0, pos := "law.go:119", after := #[{ on := 0, ground := Ground.data }, { on := 1, ground := Ground.data }], guard := none }) (v := .pointer (some ⟨L, i, none⟩)) rfl (by kernel_rfl) (by kernel_rfl) (by kernel_rfl) (fun _ _ _ h => h) (Or.inl ⟨by rfl, fun w hSw => by (try dsimp only at hSw); go_simp⟩) hHeld ?_
      try simp only [Act.put, List.setIfInBounds_toArray, List.set_cons_zero, List.set_cons_succ]
      refine wpAnyH_take (i := 3) (oi := { dst := some 62, op := Op.load 9 (Operand.tmp 61), type := 9, pos := "law.go:119", after := #[{ on := 2, ground := Ground.data }], guard := none }) (v := .string (bs x)) rfl (by kernel_rfl) (by kernel_rfl) (by kernel_rfl) (fun _ _ _ h => h) (Or.inl ⟨by rfl, fun w hSw => by (try dsimp only at hSw); have q0 := HCL.out _ hSw; go_simp⟩) hHeld ?_
      try simp only [Act.put, List.setIfInBounds_toArray, List.set_cons_zero, List.set_cons_succ]
      refine wpAnyH_take (i := 4) (oi := { dst := some 63, op := Op.load 43 (Operand.tmp 4), type := 43, pos := "law.go:119", after := #[], guard := none }) (v := .agg #[.string (bs v.kernel), .string (bs v.devpath), .string (bs v.id), .string (bs v.driver), .string (bs v.parent), .string (bs v.name), .string (bs v.result), .slice sa v.attrs.length ca, .slice sb v.above.length cb, .slice sc v.env.length cc]) rfl (by kernel_rfl) (by kernel_rfl) (by kernel_rfl) (fun _ _ _ h => h) (Or.inl ⟨by rfl, fun w hSw => by (try dsimp only at hSw); obtain ⟨c0, c1, c2, c3, c4, c5, c6, c7, c8, c9⟩ := (HHv.out _ hSw).cells; go_simp⟩) hHeld ?_
      try simp only [Act.put, List.setIfInBounds_toArray, List.set_cons_zero, List.set_cons_succ]
      refine wpAnyH_ready (rs := [5]) (by kernel_rfl) (by simp) ?_
      refine AllReadyH.cons (o := { dst := some 64, op := Op.call { callee := Callee.value (Operand.func 21), args := #[Operand.tmp 62, Operand.tmp 63], argTypes := #[9, 43] }, type := 38, pos := "law.go:119", after := #[{ on := 3, ground := Ground.data }, { on := 4, ground := Ground.data }], guard := none }) rfl (fun K hK => ?_) AllReadyH.nil
      go_simp
      go_at_call 21
      refine Calls.mono (by with_reducible exact HP1.out _ hHeld) ?_
      rintro e Wa ⟨rfl, hkv⟩
      dsimp only
      have hS := hHeld.trans hkv
      clear hkv
      clear hHeld
      refine hK.out _ _ hS (fun hHeld => ?_)
      try simp only [Act.put, List.setIfInBounds_toArray, List.set_cons_zero, List.set_cons_succ]
      clear hK
      clear hS
      refine wpAnyH_take (i := 6) (oi := { dst := some 58, op := Op.move (Operand.tmp 64), type := 38, pos := "law.go:119", after := #[{ on := 5, ground := Ground.data }], guard := none }) (v := .tuple #[.string (bs s1), .int .i64 e1]) rfl (by kernel_rfl) (by kernel_rfl) (by kernel_rfl) (fun _ _ _ h => h) (Or.inl ⟨by rfl, fun w hSw => by (try dsimp only at hSw); go_simp⟩) hHeld ?_
      try simp only [Act.put, List.setIfInBounds_toArray, List.set_cons_zero, List.set_cons_succ]
      refine wpAnyH_take (i := 7) (oi := { dst := some 65, op := Op.extract (Operand.tmp 58) 0, type := 9, pos := "law.go:119", after := #[{ on := 6, ground := Ground.data }], guard := none }) (v := .string (bs s1)) rfl (by kernel_rfl) (by kernel_rfl) (by kernel_rfl) (fun _ _ _ h => h) (Or.inl ⟨by rfl, fun w hSw => by (try dsimp only at hSw); go_simp⟩) hHeld ?_
      try simp only [Act.put, List.setIfInBounds_toArray, List.set_cons_zero, List.set_cons_succ]
      refine wpAnyH_take (i := 8) (oi := { dst := some 66, op := Op.extract (Operand.tmp 58) 1, type := 30, pos := "law.go:119", after := #[{ on := 6, ground := Ground.data }, { on := 9, ground := Ground.gcOnly Departure.lateStores }], guard := none }) (v := .int .i64 e1) rfl (by kernel_rfl) (by kernel_rfl) (by kernel_rfl) (fun _ _ _ h => h) (Or.inl ⟨by rfl, fun w hSw => by (try dsimp only at hSw); go_simp⟩) hHeld ?_
      try simp only [Act.put, List.setIfInBounds_toArray, List.set_cons_zero, List.set_cons_succ]
      refine wpAnyH_take (i := 9) (oi := { dst := some 11, op := Op.assign (Operand.tmp 65), type := 9, pos := "law.go:119", after := #[{ on := 7, ground := Ground.data }, { on := 5, ground := Ground.chain }, { on := 0, ground := Ground.phase }, { on := 1, ground := Ground.phase }, { on := 2, ground := Ground.phase }, { on := 3, ground := Ground.phase }, { on := 4, ground := Ground.phase }, { on := 5, ground := Ground.phase }, { on := 6, ground := Ground.phase }, { on := 7, ground := Ground.phase }, { on := 8, ground := Ground.textOnly Departure.lateStores }], guard := none }) (v := .string (bs s1)) rfl (by kernel_rfl) (by kernel_rfl) (by kernel_rfl) (fun _ _ _ h => h) (Or.inl ⟨by rfl, fun w hSw => by (try dsimp only at hSw); go_simp⟩) hHeld ?_
      try simp only [Act.put, List.setIfInBounds_toArray, List.set_cons_zero, List.set_cons_succ]
      refine wpAnyH_take (i := 10) (oi := { dst := some 12, op := Op.assign (Operand.tmp 66), type := 30, pos := "law.go:119", after := #[{ on := 8, ground := Ground.data }, { on := 9, ground := Ground.chain }, { on := 0, ground := Ground.phase }, { on := 1, ground := Ground.phase }, { on := 2, ground := Ground.phase }, { on := 3, ground := Ground.phase }, { on := 4, ground := Ground.phase }, { on := 5, ground := Ground.phase }, { on := 6, ground := Ground.phase }, { on := 7, ground := Ground.phase }, { on := 8, ground := Ground.phase }, { on := 9, ground := Ground.phase }], guard := none }) (v := .int .i64 e1) rfl (by kernel_rfl) (by kernel_rfl) (by kernel_rfl) (fun _ _ _ h => h) (Or.inl ⟨by rfl, fun w hSw => by (try dsimp only at hSw); go_simp⟩) hHeld ?_
      try simp only [Act.put, List.setIfInBounds_toArray, List.set_cons_zero, List.set_cons_succ]
      have HSWa := Lib.hid hHeld
      refine wpAnyH_done (by kernel_rfl) ?_ _
      clear hHeld
      go_upto_region 10 with fail
      refine wp_region_held_drew (S := fun W => Kp [] W6 W) (by kernel_rfl) (show Kp [] W6 Wa.drew from HSWa.out.drew 1) (fun hHeld => ?_)
      refine wpAnyH_take (i := 0) (oi := { dst := some 68, op := Op.move (Operand.tmp 8), type := 28, pos := "law.go:120", after := #[], guard := none }) (v := .slice (some ⟨L, 0, none⟩) 2 2) rfl (by kernel_rfl) (by kernel_rfl) (by kernel_rfl) (fun _ _ _ h => h) (Or.inl ⟨by rfl, fun w hSw => by (try dsimp only at hSw); go_simp⟩) hHeld ?_
      try simp only [Act.put, List.setIfInBounds_toArray, List.set_cons_zero, List.set_cons_succ]
      refine wpAnyH_take (i := 1) (oi := { dst := some 69, op := Op.move (Operand.tmp 10), type := 3, pos := "law.go:120", after := #[], guard := none }) (v := .int .i64 (i : Int)) rfl (by kernel_rfl) (by kernel_rfl) (by kernel_rfl) (fun _ _ _ h => h) (Or.inl ⟨by rfl, fun w hSw => by (try dsimp only at hSw); go_simp⟩) hHeld ?_
      try simp only [Act.put, List.setIfInBounds_toArray, List.set_cons_zero, List.set_cons_succ]
      refine wpAnyH_take (i := 2) (oi := { dst := some 70, op := Op.indexAddr 28 (Operand.tmp 68) (Operand.tmp 69), type := 0, pos := "law.go:120", after := #[{ on := 0, ground := Ground.data }, { on := 1, ground := Ground.data }], guard := none }) (v := .pointer (some ⟨L, i, none⟩)) rfl (by kernel_rfl) (by kernel_rfl) (by kernel_rfl) (fun _ _ _ h => h) (Or.inl ⟨by rfl, fun w hSw => by (try dsimp only at hSw); go_simp⟩) hHeld ?_
      try simp only [Act.put, List.setIfInBounds_toArray, List.set_cons_zero, List.set_cons_succ]
      refine wpAnyH_take (i := 3) (oi := { dst := some 71, op := Op.load 9 (Operand.tmp 70), type := 9, pos := "law.go:120", after := #[{ on := 2, ground := Ground.data }], guard := none }) (v := .string (bs x)) rfl (by kernel_rfl) (by kernel_rfl) (by kernel_rfl) (fun _ _ _ h => h) (Or.inl ⟨by rfl, fun w hSw => by (try dsimp only at hSw); have q0 := HCL.out _ hSw; go_simp⟩) hHeld ?_
      try simp only [Act.put, List.setIfInBounds_toArray, List.set_cons_zero, List.set_cons_succ]
      refine wpAnyH_take (i := 4) (oi := { dst := some 72, op := Op.load 43 (Operand.tmp 4), type := 43, pos := "law.go:120", after := #[], guard := none }) (v := .agg #[.string (bs v.kernel), .string (bs v.devpath), .string (bs v.id), .string (bs v.driver), .string (bs v.parent), .string (bs v.name), .string (bs v.result), .slice sa v.attrs.length ca, .slice sb v.above.length cb, .slice sc v.env.length cc]) rfl (by kernel_rfl) (by kernel_rfl) (by kernel_rfl) (fun _ _ _ h => h) (Or.inl ⟨by rfl, fun w hSw => by (try dsimp only at hSw); obtain ⟨c0, c1, c2, c3, c4, c5, c6, c7, c8, c9⟩ := (HHv.out _ hSw).cells; go_simp⟩) hHeld ?_
      try simp only [Act.put, List.setIfInBounds_toArray, List.set_cons_zero, List.set_cons_succ]
      refine wpAnyH_ready (rs := [5]) (by kernel_rfl) (by simp) ?_
      refine AllReadyH.cons (o := { dst := some 73, op := Op.call { callee := Callee.value (Operand.func 22), args := #[Operand.tmp 71, Operand.tmp 72], argTypes := #[9, 43] }, type := 38, pos := "law.go:120", after := #[{ on := 3, ground := Ground.data }, { on := 4, ground := Ground.data }], guard := none }) rfl (fun K hK => ?_) AllReadyH.nil
      go_simp
      go_at_call 22
      refine Calls.mono (by with_reducible exact HP2.out _ hHeld) ?_
      rintro e Wb ⟨rfl, hkv⟩
      dsimp only
      have hS := hHeld.trans hkv
      clear hkv
      clear hHeld
      refine hK.out _ _ hS (fun hHeld => ?_)
      try simp only [Act.put, List.setIfInBounds_toArray, List.set_cons_zero, List.set_cons_succ]
      clear hK
      clear hS
      refine wpAnyH_take (i := 6) (oi := { dst := some 67, op := Op.move (Operand.tmp 73), type := 38, pos := "law.go:120", after := #[{ on := 5, ground := Ground.data }], guard := none }) (v := .tuple #[.string (bs s1), .int .i64 e1]) rfl (by kernel_rfl) (by kernel_rfl) (by kernel_rfl) (fun _ _ _ h => h) (Or.inl ⟨by rfl, fun w hSw => by (try dsimp only at hSw); go_simp⟩) hHeld ?_
      try simp only [Act.put, List.setIfInBounds_toArray, List.set_cons_zero, List.set_cons_succ]
      refine wpAnyH_take (i := 7) (oi := { dst := some 74, op := Op.extract (Operand.tmp 67) 0, type := 9, pos := "law.go:120", after := #[{ on := 6, ground := Ground.data }], guard := none }) (v := .string (bs s1)) rfl (by kernel_rfl) (by kernel_rfl) (by kernel_rfl) (fun _ _ _ h => h) (Or.inl ⟨by rfl, fun w hSw => by (try dsimp only at hSw); go_simp⟩) hHeld ?_
      try simp only [Act.put, List.setIfInBounds_toArray, List.set_cons_zero, List.set_cons_succ]
      refine wpAnyH_take (i := 8) (oi := { dst := some 75, op := Op.extract (Operand.tmp 67) 1, type := 30, pos := "law.go:120", after := #[{ on := 6, ground := Ground.data }, { on := 9, ground := Ground.gcOnly Departure.lateStores }], guard := none }) (v := .int .i64 e1) rfl (by kernel_rfl) (by kernel_rfl) (by kernel_rfl) (fun _ _ _ h => h) (Or.inl ⟨by rfl, fun w hSw => by (try dsimp only at hSw); go_simp⟩) hHeld ?_
      try simp only [Act.put, List.setIfInBounds_toArray, List.set_cons_zero, List.set_cons_succ]
      refine wpAnyH_take (i := 9) (oi := { dst := some 13, op := Op.assign (Operand.tmp 74), type := 9, pos := "law.go:120", after := #[{ on := 7, ground := Ground.data }, { on := 5, ground := Ground.chain }, { on := 0, ground := Ground.phase }, { on := 1, ground := Ground.phase }, { on := 2, ground := Ground.phase }, { on := 3, ground := Ground.phase }, { on := 4, ground := Ground.phase }, { on := 5, ground := Ground.phase }, { on := 6, ground := Ground.phase }, { on := 7, ground := Ground.phase }, { on := 8, ground := Ground.textOnly Departure.lateStores }], guard := none }) (v := .string (bs s1)) rfl (by kernel_rfl) (by kernel_rfl) (by kernel_rfl) (fun _ _ _ h => h) (Or.inl ⟨by rfl, fun w hSw => by (try dsimp only at hSw); go_simp⟩) hHeld ?_
      try simp only [Act.put, List.setIfInBounds_toArray, List.set_cons_zero, List.set_cons_succ]
      refine wpAnyH_take (i := 10) (oi := { dst := some 14, op := Op.assign (Operand.tmp 75), type := 30, pos := "law.go:120", after := #[{ on := 8, ground := Ground.data }, { on := 9, ground := Ground.chain }, { on := 0, ground := Ground.phase }, { on := 1, ground := Ground.phase }, { on := 2, ground := Ground.phase }, { on := 3, ground := Ground.phase }, { on := 4, ground := Ground.phase }, { on := 5, ground := Ground.phase }, { on := 6, ground := Ground.phase }, { on := 7, ground := Ground.phase }, { on := 8, ground := Ground.phase }, { on := 9, ground := Ground.phase }], guard := none }) (v := .int .i64 e1) rfl (by kernel_rfl) (by kernel_rfl) (by kernel_rfl) (fun _ _ _ h => h) (Or.inl ⟨by rfl, fun w hSw => by (try dsimp only at hSw); go_simp⟩) hHeld ?_
      try simp only [Act.put, List.setIfInBounds_toArray, List.set_cons_zero, List.set_cons_succ]
      have HSWb := Lib.hid hHeld
      refine wpAnyH_done (by kernel_rfl) ?_ _
      clear hHeld
      go_upto_region 11 with fail
      refine wp_region_held_drew (S := fun W => Kp [] W6 W) (by kernel_rfl) (show Kp [] W6 Wb.drew from HSWb.out.drew 1) (fun hHeld => ?_)
      refine wpAnyH_take (i := 0) (oi := { dst := some 77, op := Op.move (Operand.tmp 8), type := 28, pos := "law.go:121", after := #[], guard := none }) (v := .slice (some ⟨L, 0, none⟩) 2 2) rfl (by kernel_rfl) (by kernel_rfl) (by kernel_rfl) (fun _ _ _ h => h) (Or.inl ⟨by rfl, fun w hSw => by (try dsimp only at hSw); go_simp⟩) hHeld ?_
      try simp only [Act.put, List.setIfInBounds_toArray, List.set_cons_zero, List.set_cons_succ]
      refine wpAnyH_take (i := 1) (oi := { dst := some 78, op := Op.move (Operand.tmp 10), type := 3, pos := "law.go:121", after := #[], guard := none }) (v := .int .i64 (i : Int)) rfl (by kernel_rfl) (by kernel_rfl) (by kernel_rfl) (fun _ _ _ h => h) (Or.inl ⟨by rfl, fun w hSw => by (try dsimp only at hSw); go_simp⟩) hHeld ?_
      try simp only [Act.put, List.setIfInBounds_toArray, List.set_cons_zero, List.set_cons_succ]
      refine wpAnyH_take (i := 2) (oi := { dst := some 79, op := Op.indexAddr 28 (Operand.tmp 77) (Operand.tmp 78), type := 0, pos := "law.go:121", after := #[{ on := 0, ground := Ground.data }, { on := 1, ground := Ground.data }], guard := none }) (v := .pointer (some ⟨L, i, none⟩)) rfl (by kernel_rfl) (by kernel_rfl) (by kernel_rfl) (fun _ _ _ h => h) (Or.inl ⟨by rfl, fun w hSw => by (try dsimp only at hSw); go_simp⟩) hHeld ?_
      try simp only [Act.put, List.setIfInBounds_toArray, List.set_cons_zero, List.set_cons_succ]
      refine wpAnyH_take (i := 3) (oi := { dst := some 80, op := Op.load 9 (Operand.tmp 79), type := 9, pos := "law.go:121", after := #[{ on := 2, ground := Ground.data }], guard := none }) (v := .string (bs x)) rfl (by kernel_rfl) (by kernel_rfl) (by kernel_rfl) (fun _ _ _ h => h) (Or.inl ⟨by rfl, fun w hSw => by (try dsimp only at hSw); have q0 := HCL.out _ hSw; go_simp⟩) hHeld ?_
      try simp only [Act.put, List.setIfInBounds_toArray, List.set_cons_zero, List.set_cons_succ]
      refine wpAnyH_take (i := 4) (oi := { dst := some 81, op := Op.load 43 (Operand.tmp 9), type := 43, pos := "law.go:121", after := #[], guard := none }) (v := .agg #[.string (bs o.kernel), .string (bs o.devpath), .string (bs o.id), .string (bs o.driver), .string (bs o.parent), .string (bs o.name), .string (bs o.result), .slice oa o.attrs.length pa, .slice ob o.above.length pb, .slice oc o.env.length pc]) rfl (by kernel_rfl) (by kernel_rfl) (by kernel_rfl) (fun _ _ _ h => h) (Or.inl ⟨by rfl, fun w hSw => by (try dsimp only at hSw); obtain ⟨c0, c1, c2, c3, c4, c5, c6, c7, c8, c9⟩ := (HHo.out _ hSw).cells; go_simp⟩) hHeld ?_
      try simp only [Act.put, List.setIfInBounds_toArray, List.set_cons_zero, List.set_cons_succ]
      refine wpAnyH_ready (rs := [5]) (by kernel_rfl) (by simp) ?_
      refine AllReadyH.cons (o := { dst := some 82, op := Op.call { callee := Callee.value (Operand.func 21), args := #[Operand.tmp 80, Operand.tmp 81], argTypes := #[9, 43] }, type := 38, pos := "law.go:121", after := #[{ on := 3, ground := Ground.data }, { on := 4, ground := Ground.data }], guard := none }) rfl (fun K hK => ?_) AllReadyH.nil
      go_simp
      go_at_call 21
      refine Calls.mono (by with_reducible exact HP3.out _ hHeld) ?_
      rintro e Wc ⟨rfl, hkv⟩
      dsimp only
      have hS := hHeld.trans hkv
      clear hkv
      clear hHeld
      refine hK.out _ _ hS (fun hHeld => ?_)
      try simp only [Act.put, List.setIfInBounds_toArray, List.set_cons_zero, List.set_cons_succ]
      clear hK
      clear hS
      refine wpAnyH_take (i := 6) (oi := { dst := some 76, op := Op.move (Operand.tmp 82), type := 38, pos := "law.go:121", after := #[{ on := 5, ground := Ground.data }], guard := none }) (v := .tuple #[.string (bs s2), .int .i64 e2]) rfl (by kernel_rfl) (by kernel_rfl) (by kernel_rfl) (fun _ _ _ h => h) (Or.inl ⟨by rfl, fun w hSw => by (try dsimp only at hSw); go_simp⟩) hHeld ?_
      try simp only [Act.put, List.setIfInBounds_toArray, List.set_cons_zero, List.set_cons_succ]
      refine wpAnyH_take (i := 7) (oi := { dst := some 83, op := Op.extract (Operand.tmp 76) 0, type := 9, pos := "law.go:121", after := #[{ on := 6, ground := Ground.data }], guard := none }) (v := .string (bs s2)) rfl (by kernel_rfl) (by kernel_rfl) (by kernel_rfl) (fun _ _ _ h => h) (Or.inl ⟨by rfl, fun w hSw => by (try dsimp only at hSw); go_simp⟩) hHeld ?_
      try simp only [Act.put, List.setIfInBounds_toArray, List.set_cons_zero, List.set_cons_succ]
      refine wpAnyH_take (i := 8) (oi := { dst := some 84, op := Op.extract (Operand.tmp 76) 1, type := 30, pos := "law.go:121", after := #[{ on := 6, ground := Ground.data }, { on := 9, ground := Ground.gcOnly Departure.lateStores }], guard := none }) (v := .int .i64 e2) rfl (by kernel_rfl) (by kernel_rfl) (by kernel_rfl) (fun _ _ _ h => h) (Or.inl ⟨by rfl, fun w hSw => by (try dsimp only at hSw); go_simp⟩) hHeld ?_
      try simp only [Act.put, List.setIfInBounds_toArray, List.set_cons_zero, List.set_cons_succ]
      refine wpAnyH_take (i := 9) (oi := { dst := some 15, op := Op.assign (Operand.tmp 83), type := 9, pos := "law.go:121", after := #[{ on := 7, ground := Ground.data }, { on := 5, ground := Ground.chain }, { on := 0, ground := Ground.phase }, { on := 1, ground := Ground.phase }, { on := 2, ground := Ground.phase }, { on := 3, ground := Ground.phase }, { on := 4, ground := Ground.phase }, { on := 5, ground := Ground.phase }, { on := 6, ground := Ground.phase }, { on := 7, ground := Ground.phase }, { on := 8, ground := Ground.textOnly Departure.lateStores }], guard := none }) (v := .string (bs s2)) rfl (by kernel_rfl) (by kernel_rfl) (by kernel_rfl) (fun _ _ _ h => h) (Or.inl ⟨by rfl, fun w hSw => by (try dsimp only at hSw); go_simp⟩) hHeld ?_
      try simp only [Act.put, List.setIfInBounds_toArray, List.set_cons_zero, List.set_cons_succ]
      refine wpAnyH_take (i := 10) (oi := { dst := some 16, op := Op.assign (Operand.tmp 84), type := 30, pos := "law.go:121", after := #[{ on := 8, ground := Ground.data }, { on := 9, ground := Ground.chain }, { on := 0, ground := Ground.phase }, { on := 1, ground := Ground.phase }, { on := 2, ground := Ground.phase }, { on := 3, ground := Ground.phase }, { on := 4, ground := Ground.phase }, { on := 5, ground := Ground.phase }, { on := 6, ground := Ground.phase }, { on := 7, ground := Ground.phase }, { on := 8, ground := Ground.phase }, { on := 9, ground := Ground.phase }], guard := none }) (v := .int .i64 e2) rfl (by kernel_rfl) (by kernel_rfl) (by kernel_rfl) (fun _ _ _ h => h) (Or.inl ⟨by rfl, fun w hSw => by (try dsimp only at hSw); go_simp⟩) hHeld ?_
      try simp only [Act.put, List.setIfInBounds_toArray, List.set_cons_zero, List.set_cons_succ]
      have HSWc := Lib.hid hHeld
      refine wpAnyH_done (by kernel_rfl) ?_ _
      clear hHeld
      go_upto_region 12 with fail
      refine wp_region_held_drew (S := fun W => Kp [] W6 W) (by kernel_rfl) (show Kp [] W6 Wc.drew from HSWc.out.drew 1) (fun hHeld => ?_)
      refine wpAnyH_take (i := 0) (oi := { dst := some 86, op := Op.move (Operand.tmp 8), type := 28, pos := "law.go:122", after := #[], guard := none }) (v := .slice (some ⟨L, 0, none⟩) 2 2) rfl (by kernel_rfl) (by kernel_rfl) (by kernel_rfl) (fun _ _ _ h => h) (Or.inl ⟨by rfl, fun w hSw => by (try dsimp only at hSw); go_simp⟩) hHeld ?_
      try simp only [Act.put, List.setIfInBounds_toArray, List.set_cons_zero, List.set_cons_succ]
      refine wpAnyH_take (i := 1) (oi := { dst := some 87, op := Op.move (Operand.tmp 10), type := 3, pos := "law.go:122", after := #[], guard := none }) (v := .int .i64 (i : Int)) rfl (by kernel_rfl) (by kernel_rfl) (by kernel_rfl) (fun _ _ _ h => h) (Or.inl ⟨by rfl, fun w hSw => by (try dsimp only at hSw); go_simp⟩) hHeld ?_
      try simp only [Act.put, List.setIfInBounds_toArray, List.set_cons_zero, List.set_cons_succ]
      refine wpAnyH_take (i := 2) (oi := { dst := some 88, op := Op.indexAddr 28 (Operand.tmp 86) (Operand.tmp 87), type := 0, pos := "law.go:122", after := #[{ on := 0, ground := Ground.data }, { on := 1, ground := Ground.data }], guard := none }) (v := .pointer (some ⟨L, i, none⟩)) rfl (by kernel_rfl) (by kernel_rfl) (by kernel_rfl) (fun _ _ _ h => h) (Or.inl ⟨by rfl, fun w hSw => by (try dsimp only at hSw); go_simp⟩) hHeld ?_
      try simp only [Act.put, List.setIfInBounds_toArray, List.set_cons_zero, List.set_cons_succ]
      refine wpAnyH_take (i := 3) (oi := { dst := some 89, op := Op.load 9 (Operand.tmp 88), type := 9, pos := "law.go:122", after := #[{ on := 2, ground := Ground.data }], guard := none }) (v := .string (bs x)) rfl (by kernel_rfl) (by kernel_rfl) (by kernel_rfl) (fun _ _ _ h => h) (Or.inl ⟨by rfl, fun w hSw => by (try dsimp only at hSw); have q0 := HCL.out _ hSw; go_simp⟩) hHeld ?_
      try simp only [Act.put, List.setIfInBounds_toArray, List.set_cons_zero, List.set_cons_succ]
      refine wpAnyH_take (i := 4) (oi := { dst := some 90, op := Op.load 43 (Operand.tmp 9), type := 43, pos := "law.go:122", after := #[], guard := none }) (v := .agg #[.string (bs o.kernel), .string (bs o.devpath), .string (bs o.id), .string (bs o.driver), .string (bs o.parent), .string (bs o.name), .string (bs o.result), .slice oa o.attrs.length pa, .slice ob o.above.length pb, .slice oc o.env.length pc]) rfl (by kernel_rfl) (by kernel_rfl) (by kernel_rfl) (fun _ _ _ h => h) (Or.inl ⟨by rfl, fun w hSw => by (try dsimp only at hSw); obtain ⟨c0, c1, c2, c3, c4, c5, c6, c7, c8, c9⟩ := (HHo.out _ hSw).cells; go_simp⟩) hHeld ?_
      try simp only [Act.put, List.setIfInBounds_toArray, List.set_cons_zero, List.set_cons_succ]
      refine wpAnyH_ready (rs := [5]) (by kernel_rfl) (by simp) ?_
      refine AllReadyH.cons (o := { dst := some 91, op := Op.call { callee := Callee.value (Operand.func 22), args := #[Operand.tmp 89, Operand.tmp 90], argTypes := #[9, 43] }, type := 38, pos := "law.go:122", after := #[{ on := 3, ground := Ground.data }, { on := 4, ground := Ground.data }], guard := none }) rfl (fun K hK => ?_) AllReadyH.nil
      go_simp
      go_at_call 22
      refine Calls.mono (by with_reducible exact HP4.out _ hHeld) ?_
      rintro e Wd ⟨rfl, hkv⟩
      dsimp only
      have hS := hHeld.trans hkv
      clear hkv
      clear hHeld
      refine hK.out _ _ hS (fun hHeld => ?_)
      try simp only [Act.put, List.setIfInBounds_toArray, List.set_cons_zero, List.set_cons_succ]
      clear hK
      clear hS
      refine wpAnyH_take (i := 6) (oi := { dst := some 85, op := Op.move (Operand.tmp 91), type := 38, pos := "law.go:122", after := #[{ on := 5, ground := Ground.data }], guard := none }) (v := .tuple #[.string (bs s2), .int .i64 e2]) rfl (by kernel_rfl) (by kernel_rfl) (by kernel_rfl) (fun _ _ _ h => h) (Or.inl ⟨by rfl, fun w hSw => by (try dsimp only at hSw); go_simp⟩) hHeld ?_
      try simp only [Act.put, List.setIfInBounds_toArray, List.set_cons_zero, List.set_cons_succ]
      refine wpAnyH_take (i := 7) (oi := { dst := some 92, op := Op.extract (Operand.tmp 85) 0, type := 9, pos := "law.go:122", after := #[{ on := 6, ground := Ground.data }], guard := none }) (v := .string (bs s2)) rfl (by kernel_rfl) (by kernel_rfl) (by kernel_rfl) (fun _ _ _ h => h) (Or.inl ⟨by rfl, fun w hSw => by (try dsimp only at hSw); go_simp⟩) hHeld ?_
      try simp only [Act.put, List.setIfInBounds_toArray, List.set_cons_zero, List.set_cons_succ]
      refine wpAnyH_take (i := 8) (oi := { dst := some 93, op := Op.extract (Operand.tmp 85) 1, type := 30, pos := "law.go:122", after := #[{ on := 6, ground := Ground.data }, { on := 9, ground := Ground.gcOnly Departure.lateStores }], guard := none }) (v := .int .i64 e2) rfl (by kernel_rfl) (by kernel_rfl) (by kernel_rfl) (fun _ _ _ h => h) (Or.inl ⟨by rfl, fun w hSw => by (try dsimp only at hSw); go_simp⟩) hHeld ?_
      try simp only [Act.put, List.setIfInBounds_toArray, List.set_cons_zero, List.set_cons_succ]
      refine wpAnyH_take (i := 9) (oi := { dst := some 17, op := Op.assign (Operand.tmp 92), type := 9, pos := "law.go:122", after := #[{ on := 7, ground := Ground.data }, { on := 5, ground := Ground.chain }, { on := 0, ground := Ground.phase }, { on := 1, ground := Ground.phase }, { on := 2, ground := Ground.phase }, { on := 3, ground := Ground.phase }, { on := 4, ground := Ground.phase }, { on := 5, ground := Ground.phase }, { on := 6, ground := Ground.phase }, { on := 7, ground := Ground.phase }, { on := 8, ground := Ground.textOnly Departure.lateStores }], guard := none }) (v := .string (bs s2)) rfl (by kernel_rfl) (by kernel_rfl) (by kernel_rfl) (fun _ _ _ h => h) (Or.inl ⟨by rfl, fun w hSw => by (try dsimp only at hSw); go_simp⟩) hHeld ?_
      try simp only [Act.put, List.setIfInBounds_toArray, List.set_cons_zero, List.set_cons_succ]
      refine wpAnyH_take (i := 10) (oi := { dst := some 18, op := Op.assign (Operand.tmp 93), type := 30, pos := "law.go:122", after := #[{ on := 8, ground := Ground.data }, { on := 9, ground := Ground.chain }, { on := 0, ground := Ground.phase }, { on := 1, ground := Ground.phase }, { on := 2, ground := Ground.phase }, { on := 3, ground := Ground.phase }, { on := 4, ground := Ground.phase }, { on := 5, ground := Ground.phase }, { on := 6, ground := Ground.phase }, { on := 7, ground := Ground.phase }, { on := 8, ground := Ground.phase }, { on := 9, ground := Ground.phase }], guard := none }) (v := .int .i64 e2) rfl (by kernel_rfl) (by kernel_rfl) (by kernel_rfl) (fun _ _ _ h => h) (Or.inl ⟨by rfl, fun w hSw => by (try dsimp only at hSw); go_simp⟩) hHeld ?_
      try simp only [Act.put, List.setIfInBounds_toArray, List.set_cons_zero, List.set_cons_succ]
      have HSWd := Lib.hid hHeld
      refine wpAnyH_done (by kernel_rfl) ?_ _
      clear hHeld
      have HSd := HSWd
      go_wp2
      go_roundg gk
      case measure => omega
      case rel => exact ⟨i + 1, by go_num, by have := HIG.out; omega, HSd⟩
end Go.Proofs.YtfpkppgecmbglaaGreatDoor

namespace Go.Proofs.YtfpkppgecmbglaaGreatDoor
open Go.ChangeShapes Go.WideShapes Go.ChangeAt Go.RowKit Go.Deep

theorem cells41 : Tryz.prog.cellsOf 41 = 1 := by kernel_rfl
theorem cells43 : Tryz.prog.cellsOf 43 = 10 := by kernel_rfl
theorem fields43 : ∃ f0 f1 f2 f3 f4 f5 f6 f7 f8 f9 : Field, Tryz.prog.underlying 43 = some (.struct #[f0, f1, f2, f3, f4, f5, f6, f7, f8, f9]) ∧ (f0.type = 9 ∧ f0.offset = 0) ∧ (f1.type = 9 ∧ f1.offset = 1) ∧ (f2.type = 9 ∧ f2.offset = 2) ∧ (f3.type = 9 ∧ f3.offset = 3) ∧ (f4.type = 9 ∧ f4.offset = 4) ∧ (f5.type = 9 ∧ f5.offset = 5) ∧ (f6.type = 9 ∧ f6.offset = 6) ∧ (f7.type = 41 ∧ f7.offset = 7) ∧ (f8.type = 41 ∧ f8.offset = 8) ∧ (f9.type = 41 ∧ f9.offset = 9) :=
  ⟨_, _, _, _, _, _, _, _, _, _, Tryz.underlying43, ⟨rfl, rfl⟩, ⟨rfl, rfl⟩, ⟨rfl, rfl⟩, ⟨rfl, rfl⟩, ⟨rfl, rfl⟩, ⟨rfl, rfl⟩, ⟨rfl, rfl⟩, ⟨rfl, rfl⟩, ⟨rfl, rfl⟩, ⟨rfl, rfl⟩⟩
theorem ten_of {α : Type} : ∀ {l : List α}, l.length = 10 → ∃ a b c d e f g h i j, l = [a, b, c, d, e, f, g, h, i, j]
  | [a, b, c, d, e, f, g, h, i, j], _ => ⟨a, b, c, d, e, f, g, h, i, j, rfl⟩

section
variable {H : Type} {enc : TypeId × Value → H} {W : World} {base : Nat} {spare : Nat → Bool} {held : Bool}
theorem sl_of {fuel : Nat} {v : Value} {x : DataW H × List MemPlace} (h : DataW.trod enc Tryz.prog W base spare held fuel 41 [v] = some x) : ∃ a n c, v = .slice a n c := by
  rcases open_slice Tryz.underlying41 h with ⟨hcs, hx⟩ | ⟨ad, len, cap, m, k, D, Pl, hcs, _⟩
  · simp at hcs
    exact ⟨_, _, _, hcs⟩
  · simp at hcs
    exact ⟨_, _, _, hcs⟩
theorem st_of {fuel : Nat} {v : Value} {x : DataW H × List MemPlace} (h : DataW.trod enc Tryz.prog W base spare held fuel 9 [v] = some x) : ∃ s : List UInt8, v = .string (bs s) := by
  obtain ⟨s0, e0, y0, _⟩ := DataW.trod_string Tryz.underlying9 h
  simp at e0
  exact ⟨s0.data.toList, by rw [bs_of]; exact e0⟩
theorem vals_of_trod {fuel : Nat} {cs : List Value} {x : DataW H × List MemPlace} (h : DataW.trod enc Tryz.prog W base spare held fuel 43 cs = some x) : ∃ (v : Vs) (sa : Option Addr) (na ca : Nat) (sb : Option Addr) (nb cb : Nat) (sc : Option Addr) (nc cc : Nat), cs = (vsC v (.slice sa na ca) (.slice sb nb cb) (.slice sc nc cc)).toList := by
  obtain ⟨f0, f1, f2, f3, f4, f5, f6, f7, f8, f9, hs, ⟨t0, o0⟩, ⟨t1, o1⟩, ⟨t2, o2⟩, ⟨t3, o3⟩, ⟨t4, o4⟩, ⟨t5, o5⟩, ⟨t6, o6⟩, ⟨t7, o7⟩, ⟨t8, o8⟩, ⟨t9, o9⟩⟩ := fields43
  obtain ⟨xs, n, _, hx, hcl, hxl, hf⟩ := DataW.trod_struct hs h
  rw [cells43] at hcl
  have h0 := hf 0 f0 rfl
  have h1 := hf 1 f1 rfl
  have h2 := hf 2 f2 rfl
  have h3 := hf 3 f3 rfl
  have h4 := hf 4 f4 rfl
  have h5 := hf 5 f5 rfl
  have h6 := hf 6 f6 rfl
  have h7 := hf 7 f7 rfl
  have h8 := hf 8 f8 rfl
  have h9 := hf 9 f9 rfl
  rw [t0, o0, cells9] at h0
  rw [t1, o1, cells9] at h1
  rw [t2, o2, cells9] at h2
  rw [t3, o3, cells9] at h3
  rw [t4, o4, cells9] at h4
  rw [t5, o5, cells9] at h5
  rw [t6, o6, cells9] at h6
  rw [t7, o7, cells41] at h7
  rw [t8, o8, cells41] at h8
  rw [t9, o9, cells41] at h9
  have hl2 : xs.length = 10 := hxl
  obtain ⟨x0, x1, x2, x3, x4, x5, x6, x7, x8, x9, rfl⟩ := ten_of hl2
  obtain ⟨c0, c1, c2, c3, c4, c5, c6, c7, c8, c9, rfl⟩ := ten_of hcl
  obtain ⟨s0, rfl⟩ := st_of h0
  obtain ⟨s1, rfl⟩ := st_of h1
  obtain ⟨s2, rfl⟩ := st_of h2
  obtain ⟨s3, rfl⟩ := st_of h3
  obtain ⟨s4, rfl⟩ := st_of h4
  obtain ⟨s5, rfl⟩ := st_of h5
  obtain ⟨s6, rfl⟩ := st_of h6
  obtain ⟨a7, n7, k7, rfl⟩ := sl_of h7
  obtain ⟨a8, n8, k8, rfl⟩ := sl_of h8
  obtain ⟨a9, n9, k9, rfl⟩ := sl_of h9
  exact ⟨⟨s0, s1, s2, s3, s4, s5, s6, [], [], []⟩, a7, n7, k7, a8, n8, k8, a9, n9, k9, rfl⟩
set_option maxRecDepth 100000 in
theorem vals_of_arg {r : Reach} {b0 : Nat} {v : Value} {d : DataW H} {p : List MemPlace} (hv : Value.okWide Tryz.prog W r b0 43 v) (h : DataW.Trod enc Tryz.prog W base spare held 43 v d p) :
    ∃ (x : Vs) (sa : Option Addr) (na ca : Nat) (sb : Option Addr) (nb cb : Nat) (sc : Option Addr) (nc cc : Nat), v = .agg (vsC x (.slice sa na ca) (.slice sb nb cb) (.slice sc nc cc)) := by
  obtain ⟨cs, rfl, hsz⟩ := okWide_struct Tryz.underlying43 hv
  obtain ⟨fuel, hf⟩ := h
  obtain ⟨x, sa, na, ca, sb, nb, cb, sc, nc, cc, hcs⟩ := vals_of_trod hf
  refine ⟨x, sa, na, ca, sb, nb, cb, sc, nc, cc, ?_⟩
  exact congrArg Value.agg (Array.toList_inj.1 (by simpa [Value.cells] using hcs))
end
end Go.Proofs.YtfpkppgecmbglaaGreatDoor

namespace Go.Proofs.YtfpkppgecmbglaaGreatDoor
open Go.ChangeShapes Go.WideShapes Go.ChangeAt Go.RowKit Go.Deep

/-- A list of things, one for each number below n. -/
theorem list_of {α : Type} {Q : Nat → α → Prop} : ∀ n : Nat, (∀ i, i < n → ∃ x, Q i x) → ∃ l : List α, l.length = n ∧ ∀ (j : Nat) x, l[j]? = some x → Q j x
  | 0, _ => ⟨[], rfl, fun j x h => by simp at h⟩
  | n + 1, h => by
    obtain ⟨l, hl, hq⟩ := list_of n fun i hi => h i (by omega)
    obtain ⟨x, hx⟩ := h n (by omega)
    refine ⟨l ++ [x], by simp [hl], fun j y hy => ?_⟩
    rcases Nat.lt_or_ge j l.length with hj | hj
    · rw [List.getElem?_append_left hj] at hy
      exact hq j y hy
    · rw [List.getElem?_append_right hj] at hy
      have hj0 : j - l.length = 0 := by
        have := (List.getElem?_eq_some_iff.1 hy).1
        simp at this
        omega
      rw [hj0] at hy
      simp at hy
      subst hy
      rw [show j = n by omega]
      exact hx
theorem bulk_part {H : Type} {d : DataW H} : ∀ {l : List (DataW H)}, d ∈ l → Rows.uptoBulk d ≤ Rows.uptoBulkAll l
  | x :: r, h => by
    simp only [Rows.uptoBulkAll]
    rcases List.mem_cons.1 h with e | e
    · subst e
      omega
    · have := bulk_part e
      omega
theorem bulk_pos {H : Type} (d : DataW H) : 1 ≤ Rows.uptoBulk d := by
  cases d with
  | lit l => cases l <;> simp [Rows.uptoBulk]
  | _ => simp [Rows.uptoBulk]
theorem bulk_len {H : Type} : ∀ l : List (DataW H), l.length ≤ Rows.uptoBulkAll l
  | [] => by simp
  | d :: r => by
    have h1 := bulk_pos d
    have h2 := bulk_len r
    simp only [Rows.uptoBulkAll, List.length_cons]
    omega
theorem two_of {α : Type} : ∀ {l : List α}, l.length = 2 → ∃ a b, l = [a, b]
  | [a, b], _ => ⟨a, b, rfl⟩
theorem cells56 : Tryz.prog.cellsOf 56 = 2 := by kernel_rfl
theorem fields56 : ∃ f0 f1 : Field, Tryz.prog.underlying 56 = some (.struct #[f0, f1]) ∧ f0.type = 9 ∧ f0.offset = 0 ∧ f1.type = 9 ∧ f1.offset = 1 := ⟨_, _, Tryz.underlying56, rfl, rfl, rfl, rfl⟩

section
variable {H : Type} {enc : TypeId × Value → H} {W : World} {base : Nat} {spare : Nat → Bool} {held : Bool}
theorem at_bulk {fuel : Nat} {cs : List Value} {x : DataW H × List MemPlace} (h : DataW.trod enc Tryz.prog W base spare held fuel 56 cs = some x) : ∃ y : Atb, cs = atT.cf y ∧ y.2.length ≤ Rows.uptoBulk x.1 := by
  obtain ⟨f0, f1, hs, t0, o0, t1, o1⟩ := fields56
  obtain ⟨xs, n, _, hx, hcl, hxl, hf⟩ := DataW.trod_struct hs h
  rw [cells56] at hcl
  have h0 := hf 0 f0 rfl
  have h1 := hf 1 f1 rfl
  rw [t0, o0, cells9] at h0
  rw [t1, o1, cells9] at h1
  have hl2 : xs.length = 2 := hxl
  obtain ⟨x0, x1, rfl⟩ := two_of hl2
  obtain ⟨s0, e0, y0, _⟩ := DataW.trod_string Tryz.underlying9 h0
  obtain ⟨s1, e1, y1, _⟩ := DataW.trod_string Tryz.underlying9 h1
  obtain ⟨c0, c1, rfl⟩ := two_of hcl
  refine ⟨(s0.data.toList, s1.data.toList), ?_, ?_⟩
  · simp at e0 e1
    rw [e0, e1]
    show _ = [Value.string (bs _), Value.string (bs _)]
    rw [bs_of, bs_of]
  · rw [hx, y0, y1]
    simp only [List.map_cons, List.map_nil, Rows.uptoBulk, Rows.uptoBulkAll]
    omega
theorem st_bulk {fuel : Nat} {v : Value} {x : DataW H × List MemPlace} (h : DataW.trod enc Tryz.prog W base spare held fuel 9 [v] = some x) : ∃ s : List UInt8, v = .string (bs s) ∧ s.length ≤ Rows.uptoBulk x.1 := by
  obtain ⟨s0, e0, y0, _⟩ := DataW.trod_string Tryz.underlying9 h
  simp at e0
  exact ⟨s0.data.toList, by rw [bs_of]; exact e0, by rw [y0]; simp only [Rows.uptoBulk]; omega⟩
theorem ats_bulk {fuel : Nat} {v : Value} {x : DataW H × List MemPlace} (h : DataW.trod enc Tryz.prog W base spare held fuel 41 [v] = some x) : ∃ l : List Atb, atT.Has W v l ∧ l.length ≤ Rows.uptoBulk x.1 ∧ ∀ a ∈ l, a.2.length ≤ Rows.uptoBulk x.1 := by
  rcases open_slice Tryz.underlying41 h with ⟨hcs, hx⟩ | ⟨ad, len, cap, m, k, D, Pl, hcs, _, hl, hm, hmm, hx, hi⟩
  · simp at hcs
    subst hcs
    exact ⟨[], .inl ⟨none, 0, rfl, rfl⟩, by simp, fun a ha => by cases ha⟩
  · simp at hcs
    subst hcs
    by_cases hn : len = 0
    · subst hn
      exact ⟨[], .inl ⟨_, _, rfl, rfl⟩, by simp, fun a ha => by cases ha⟩
    · have hlm : len ≤ m := by rw [hmm]; split <;> omega
      have hel : ∀ i, i < len → ∃ y : Atb, (∀ j, j < 2 → W.cell? ((ad.add (i * 2)).add j) = (atT.cf y)[j]?) ∧ y.2.length ≤ Rows.uptoBulk x.1 := fun i hi' => by
        obtain ⟨cs', hc, ht⟩ := hi i (by omega)
        rw [cells56] at hc
        obtain ⟨_, _, hat⟩ := World.cells?_some hc
        obtain ⟨y, rfl, b1⟩ := at_bulk ht
        have hb : Rows.uptoBulk (D i) ≤ Rows.uptoBulk x.1 := by
          have h1 : Rows.uptoBulk (D i) ≤ Rows.uptoBulkAll ((List.range len).map D) := bulk_part (List.mem_map.2 ⟨i, List.mem_range.2 hi', rfl⟩)
          rw [hx]
          simp only [Rows.uptoBulk]
          omega
        exact ⟨y, hat, Nat.le_trans b1 hb⟩
      obtain ⟨y0, hy0, _⟩ := hel 0 (by omega)
      have hy1 : W.cell? ((ad.add (0 * 2)).add 0) = some (.string (bs y0.1)) := hy0 0 (by omega)
      have hplain : ∃ b o, ad = ⟨b, o, none⟩ ∧ b < W.heap.size := by
        rw [Nat.zero_mul] at hy1
        have e : (ad.add 0).add 0 = ad := by
          cases ad with
          | mk b o i => cases i <;> rfl
        rw [e] at hy1
        exact plain_addr (by rw [show ad.add 0 = ad by cases ad with | mk b o i => cases i <;> rfl]; exact hy1)
      obtain ⟨b, o, rfl, hb⟩ := hplain
      obtain ⟨l, hll, hq⟩ := list_of len hel
      refine ⟨l, .inr ⟨b, o, cap, by rw [hll], hb, fun j y hy i v hv => ?_⟩, ?_, fun a ha => ?_⟩
      · have hi4 : i < 2 := by have := (List.getElem?_eq_some_iff.1 hv).1; rwa [atT.len y] at this
        have := (hq j y hy).1 i hi4
        rw [add_plain, add_plain] at this
        rw [← hv, ← this]
        rfl
      · rw [hll, hx]
        have := bulk_len ((List.range len).map D)
        rw [List.length_map, List.length_range] at this
        simp only [Rows.uptoBulk]
        omega
      · obtain ⟨j, hj, rfl⟩ := List.getElem_of_mem ha
        exact (hq j _ (List.getElem?_eq_getElem hj)).2
theorem vals_bulk {fuel : Nat} {cs : List Value} {x : DataW H × List MemPlace} (h : DataW.trod enc Tryz.prog W base spare held fuel 43 cs = some x) : ∃ (v : Vs) (a b c : Value), cs = (vsC v a b c).toList ∧ atT.Has W a v.attrs ∧ atT.Has W b v.above ∧ atT.Has W c v.env ∧ (v.attrs.length ≤ Rows.uptoBulk x.1 ∧ v.above.length ≤ Rows.uptoBulk x.1 ∧ v.env.length ≤ Rows.uptoBulk x.1) ∧ VSz (Rows.uptoBulk x.1) v := by
  obtain ⟨f0, f1, f2, f3, f4, f5, f6, f7, f8, f9, hs, ⟨t0, o0⟩, ⟨t1, o1⟩, ⟨t2, o2⟩, ⟨t3, o3⟩, ⟨t4, o4⟩, ⟨t5, o5⟩, ⟨t6, o6⟩, ⟨t7, o7⟩, ⟨t8, o8⟩, ⟨t9, o9⟩⟩ := fields43
  obtain ⟨xs, n, _, hx, hcl, hxl, hf⟩ := DataW.trod_struct hs h
  rw [cells43] at hcl
  have h0 := hf 0 f0 rfl
  have h1 := hf 1 f1 rfl
  have h2 := hf 2 f2 rfl
  have h3 := hf 3 f3 rfl
  have h4 := hf 4 f4 rfl
  have h5 := hf 5 f5 rfl
  have h6 := hf 6 f6 rfl
  have h7 := hf 7 f7 rfl
  have h8 := hf 8 f8 rfl
  have h9 := hf 9 f9 rfl
  rw [t0, o0, cells9] at h0
  rw [t1, o1, cells9] at h1
  rw [t2, o2, cells9] at h2
  rw [t3, o3, cells9] at h3
  rw [t4, o4, cells9] at h4
  rw [t5, o5, cells9] at h5
  rw [t6, o6, cells9] at h6
  rw [t7, o7, cells41] at h7
  rw [t8, o8, cells41] at h8
  rw [t9, o9, cells41] at h9
  have hl2 : xs.length = 10 := hxl
  obtain ⟨x0, x1, x2, x3, x4, x5, x6, x7, x8, x9, rfl⟩ := ten_of hl2
  obtain ⟨c0, c1, c2, c3, c4, c5, c6, c7, c8, c9, rfl⟩ := ten_of hcl
  obtain ⟨s0, rfl, q0⟩ := st_bulk h0
  obtain ⟨s1, rfl, q1⟩ := st_bulk h1
  obtain ⟨s2, rfl, q2⟩ := st_bulk h2
  obtain ⟨s3, rfl, q3⟩ := st_bulk h3
  obtain ⟨s4, rfl, q4⟩ := st_bulk h4
  obtain ⟨s5, rfl, q5⟩ := st_bulk h5
  obtain ⟨s6, rfl, q6⟩ := st_bulk h6
  obtain ⟨l7, g7, z7, q7⟩ := ats_bulk h7
  obtain ⟨l8, g8, z8, q8⟩ := ats_bulk h8
  obtain ⟨l9, g9, z9, q9⟩ := ats_bulk h9
  have hb : ∀ d ∈ [x0.1, x1.1, x2.1, x3.1, x4.1, x5.1, x6.1, x7.1, x8.1, x9.1], Rows.uptoBulk d ≤ Rows.uptoBulk x.1 := fun d hd => by
    have h1 := bulk_part hd
    rw [hx]
    simp only [List.map_cons, List.map_nil, Rows.uptoBulk]
    omega
  simp only [List.mem_cons, List.not_mem_nil, or_false, forall_eq_or_imp, forall_eq] at hb
  obtain ⟨b0, b1, b2, b3, b4, b5, b6, b7, b8, b9⟩ := hb
  exact ⟨⟨s0, s1, s2, s3, s4, s5, s6, l7, l8, l9⟩, _, _, _, rfl, g7, g8, g9, ⟨Nat.le_trans z7 b7, Nat.le_trans z8 b8, Nat.le_trans z9 b9⟩, Nat.le_trans q0 b0, Nat.le_trans q1 b1, Nat.le_trans q2 b2, Nat.le_trans q3 b3, Nat.le_trans q4 b4, Nat.le_trans q5 b5, Nat.le_trans q6 b6,
    fun y hy => Nat.le_trans (q7 y hy) b7, fun y hy => Nat.le_trans (q8 y hy) b8, fun y hy => Nat.le_trans (q9 y hy) b9⟩
theorem VSz.mono {K M : Nat} {v : Vs} (h : VSz K v) (hk : K ≤ M) : VSz M v :=
  ⟨Nat.le_trans h.k hk, Nat.le_trans h.d hk, Nat.le_trans h.i hk, Nat.le_trans h.r hk, Nat.le_trans h.p hk, Nat.le_trans h.n hk, Nat.le_trans h.t hk, fun x hx => Nat.le_trans (h.a x hx) hk, fun x hx => Nat.le_trans (h.b x hx) hk, fun x hx => Nat.le_trans (h.c x hx) hk⟩
set_option maxRecDepth 100000 in
theorem valsB_of_arg {r : Reach} {b0 : Nat} {v : Value} {d : DataW H} {p : List MemPlace} (hv : Value.okWide Tryz.prog W r b0 43 v) (h : DataW.Trod enc Tryz.prog W base spare held 43 v d p) (hb : Rows.uptoBulk d ≤ 1048576) :
    ∃ (x : Vs) (a b c : Value), v = .agg (vsC x a b c) ∧ atT.Has W a x.attrs ∧ atT.Has W b x.above ∧ atT.Has W c x.env ∧ (x.attrs.length ≤ 1048576 ∧ x.above.length ≤ 1048576 ∧ x.env.length ≤ 1048576) ∧ VSz 1048576 x := by
  obtain ⟨cs, rfl, hsz⟩ := okWide_struct Tryz.underlying43 hv
  obtain ⟨fuel, hf⟩ := h
  obtain ⟨x, a, b, c, hcs, g1, g2, g3, ⟨z1, z2, z3⟩, hz⟩ := vals_bulk hf
  refine ⟨x, a, b, c, ?_, g1, g2, g3, ⟨Nat.le_trans z1 hb, Nat.le_trans z2 hb, Nat.le_trans z3 hb⟩, hz.mono hb⟩
  exact congrArg Value.agg (Array.toList_inj.1 (by simpa [Value.cells] using hcs))
end
end Go.Proofs.YtfpkppgecmbglaaGreatDoor
