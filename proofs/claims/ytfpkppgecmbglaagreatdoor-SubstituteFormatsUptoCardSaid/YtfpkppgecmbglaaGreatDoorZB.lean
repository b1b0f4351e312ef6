/- What Format writes is read as the pieces (on lists). -/
import Derived.Test.YtfpkppgecmbglaaGreatDoorZE
namespace Go.Proofs.YtfpkppgecmbglaaGreatDoor

theorem all_pr {S s : List UInt8} (h : Nm.allIn S s = true) (hS : S.all prCh = true) : s.all prCh = true := by
  unfold Nm.allIn at h
  rw [List.all_eq_true] at h hS ⊢
  intro b hb
  exact hS b (by simpa using h b hb)
theorem nmB_pr {s : List UInt8} (h : nmB s = true) : s.all prCh = true := by
  unfold nmB Nm.nameB at h
  simp only [Bool.and_eq_true] at h
  exact all_pr h.2 (by decide +kernel)
theorem kyB_pr {s : List UInt8} (h : kyB s = true) : s.all prCh = true := by
  unfold kyB at h
  cases s with
  | nil => rfl
  | cons c r =>
    simp only [Nm.keyB, Bool.and_eq_true] at h
    exact all_pr h.2 (by decide +kernel)
theorem decN_pr {n : Nat} (h : n ≤ 99) : (decN n).all prCh = true := by
  have := List.all_eq_true.1 (show ((List.range 100).all fun n => (decN n).all prCh) = true by decide +kernel) n (List.mem_range.2 (by omega))
  exact this
theorem wordOf_pr (k : Nat) : (wordOf k).all prCh = true := by unfold wordOf; split <;> rfl
theorem letterOf_pr (k : Nat) : prCh (letterOf k) = true := by unfold letterOf; split <;> rfl
theorem tailOf_pr {p : Pc} (h : Well nmB kyB p) : (tailOf p).all prCh = true := by
  unfold tailOf
  split
  · rename_i h78
    have ht : p.text.all prCh = true := by
      rcases h78 with e | e
      · exact nmB_pr (h.t7 e)
      · exact kyB_pr (h.t8 e)
    rw [List.all_cons, List.all_append, ht]
    rfl
  · split
    · rename_i h9
      have hd := decN_pr (h.w9 h9.1).1
      rw [List.all_cons, List.all_append]
      split
      · rw [List.all_append, hd]; rfl
      · rw [hd]; rfl
    · rfl
theorem escL_pr : ∀ t : List UInt8, t.all prCh = true → (escL t).all prCh = true
  | [], _ => rfl
  | b :: t, h => by
    rw [List.all_cons, Bool.and_eq_true] at h
    rw [escL_cons, List.all_append, escL_pr t h.2]
    by_cases e : b = 36 ∨ b = 37 <;> simp [escL, e, h.1]
theorem fmtP_pr {p : Pc} (nx : List UInt8) (h1 : p.kind = 1 → p.text.all prCh = true) (h2 : p.kind ≠ 1 → Well nmB kyB p) : (fmtP p nx).all prCh = true := by
  unfold fmtP
  split
  · rename_i e
    exact escL_pr _ (h1 e)
  · rename_i e
    split
    · rw [List.all_cons, List.all_cons, letterOf_pr]; rfl
    · rw [List.all_cons, List.all_append, wordOf_pr, tailOf_pr (h2 e)]; rfl
def Right (p : Pc) : Prop := (p.kind = 1 → p.text ≠ [] ∧ p.text.all prCh = true ∧ p.word = 0 ∧ p.more = false) ∧ (p.kind ≠ 1 → Well nmB kyB p)
theorem fmtAll_pr : ∀ l : List Pc, (∀ p ∈ l, Right p) → (fmtAll l).all prCh = true
  | [], _ => rfl
  | p :: l, h => by
    have hp := h p (List.mem_cons_self ..)
    rw [fmtAll, List.all_append, fmtP_pr _ (fun e => (hp.1 e).2.1) hp.2, fmtAll_pr l (fun q hq => h q (List.mem_cons_of_mem _ hq))]
    rfl
theorem pcOf_g (p : Pc) : pcOf p.g = p := by obtain ⟨k, t, n, m⟩ := p; simp [pcOf, Pc.g]
theorem g_inj : ∀ {a b : List Pc}, a.map Pc.g = b.map Pc.g → a = b
  | [], [], _ => rfl
  | [], _ :: _, h => by cases h
  | _ :: _, [], h => by cases h
  | p :: a, q :: b, h => by
    rw [List.map_cons, List.map_cons, List.cons.injEq] at h
    rw [g_inj h.2, ← pcOf_g p, h.1, pcOf_g q]
theorem sm_eq : ∀ l : List Pc, smN (l.map Pc.g) = azHead (nextT l)
  | [] => rfl
  | q :: m => by
    show smG q.g = azHead (if q.kind = 1 then q.text else [])
    unfold smG
    by_cases e : q.kind = 1
    · rw [if_pos e, show q.g.kind = (q.kind : Int) from rfl, e]
      rfl
    · rw [if_neg e, show q.g.kind = (q.kind : Int) from rfl, decide_eq_false (by omega)]
      rfl
theorem wrX_eq {p : Pc} {l : List Pc} (hp : Right p) (ha : ∀ q m, l = q :: m → precG p.g q.g = true) : wrX p (smN (l.map Pc.g)) = fmtP p (nextT l) := by
  rw [sm_eq]
  refine (wr_eq p (azHead (nextT l)) hp.2 fun hs e11 => ?_).trans rfl
  cases l with
  | nil => cases hs
  | cons q m =>
    have hq := ha q m rfl
    have hs' : smN ((q :: m).map Pc.g) = true := by rw [sm_eq]; exact hs
    have hs2 : smG q.g = true := hs'
    have hk : q.g.kind = 1 := by
      unfold smG at hs2
      simp only [Bool.and_eq_true, decide_eq_true_eq] at hs2
      exact hs2.1
    unfold precG at hq
    rw [if_neg (by rw [hk]; simp), if_neg (by show ¬ (p.kind : Int) = 1; omega), if_pos (by show (p.kind : Int) = 11; omega), hs2] at hq
    cases hq
theorem fmtR_ok : ∀ (l : List Pc) (acc s : List UInt8), (∀ p ∈ l, Right p) → adjG l → acc.length ≤ 256 → fmtR (l.map Pc.g) acc = (s, 0) → s = acc ++ fmtAll l ∧ s.length ≤ 256
  | [], acc, s, _, _, hl, h => by
    have e : acc = s := congrArg Prod.fst h
    subst e
    exact ⟨by rw [fmtAll, List.append_nil], hl⟩
  | p :: l, acc, s, hr, ha, hl, h => by
    have hp := hr p (List.mem_cons_self ..)
    have e : fmtR ((p :: l).map Pc.g) acc = if 256 < p.text.length then ([], 91) else if 256 < (acc ++ wrX (pcOf p.g) (smN (l.map Pc.g))).length then ([], 91) else fmtR (l.map Pc.g) (acc ++ wrX (pcOf p.g) (smN (l.map Pc.g))) := rfl
    rw [e, pcOf_g, wrX_eq hp ha.1] at h
    split at h
    · cases h
    · split at h
      · cases h
      · obtain ⟨h1, h2⟩ := fmtR_ok l _ s (fun q hq => hr q (List.mem_cons_of_mem _ hq)) ha.2 (by omega) h
        exact ⟨by rw [h1, fmtAll, List.append_assoc], h2⟩
theorem ok_list : ∀ l : List Gp, (∀ j, j < l.length → adjB l j = true) → ∃ ps : List Pc, l = ps.map Pc.g ∧ (∀ p ∈ ps, Right p) ∧ adjG ps
  | [], _ => ⟨[], rfl, by simp, trivial⟩
  | x :: r, h => by
    have h0 := h 0 (by simp)
    rw [adj_zero (show (x :: r)[0]? = some x from rfl)] at h0
    obtain ⟨p, rfl, -, -, -, h1, h2⟩ := ok_pc h0
    have hr : ∀ j, j < r.length → adjB r j = true := fun j hj => by
      have hj1 := h (j + 1) (by simp; omega)
      cases j with
      | zero =>
        obtain ⟨y, hy⟩ : ∃ y, r[0]? = some y := ⟨_, List.getElem?_eq_getElem hj⟩
        rw [adj_zero hy]
        exact adj_ok (show (p.g :: r)[0 + 1]? = some y by rw [List.getElem?_cons_succ]; exact hy) hj1
      | succ i =>
        unfold adjB at hj1 ⊢
        simpa only [List.getElem?_cons_succ] using hj1
    obtain ⟨ps, rfl, hR, hA⟩ := ok_list r hr
    refine ⟨p :: ps, rfl, fun q hq => ?_, ⟨fun q m e => ?_, hA⟩⟩
    · rcases List.mem_cons.1 hq with rfl | hq
      · exact ⟨h1, h2⟩
      · exact hR q hq
    · subst e
      have hj1 := h 1 (by simp)
      rw [adj_at (x := q.g) (y := p.g) rfl rfl, Bool.and_eq_true] at hj1
      exact hj1.2
theorem format_parse {l : List Gp} {s : List UInt8} (h : formatE l = (s, 0)) : ∃ ps : List Pc, l = ps.map Pc.g ∧ parseE s = (ps, 0) ∧ s.length ≤ 256 := by
  unfold formatE at h
  split at h
  · rename_i ho
    obtain ⟨ps, rfl, hR, hA⟩ := ok_list l ((okAll_iff l).1 ho)
    obtain ⟨hs, hl⟩ := fmtR_ok ps [] s hR hA (by simp) h
    rw [List.nil_append] at hs
    refine ⟨ps, rfl, ?_, hl⟩
    have hf : FineL nmB kyB ps := fine_of ps (fun p hp => ⟨fun e => ⟨((hR p hp).1 e).1, ((hR p hp).1 e).2.2.1, ((hR p hp).1 e).2.2.2⟩, (hR p hp).2⟩) hA
    have hpr := fmtAll_pr ps hR
    have hP := parse_fmt nmB_no kyB_no hf
    unfold parseE
    rw [if_neg (by omega), txB_eq, hs, hpr, decide_eq_true (by rw [← hs]; exact hl), if_neg (by simp), hP]
  · cases h
theorem tsum_mem {p : Pc} : ∀ {l : List Pc}, p ∈ l → p.text.length ≤ tsum l
  | q :: l, h => by
    have e : tsum (q :: l) = q.text.length + tsum l := by simp [tsum]
    rw [e]
    rcases List.mem_cons.1 h with rfl | h
    · omega
    · have := tsum_mem h; omega
theorem pfrom_tsum : ∀ (n : Nat) (s : List UInt8) (acc l : List Pc), s.length ≤ n → s.length ≤ 256 → pfrom nmB kyB acc s = some l → tsum l ≤ tsum acc + 256 * s.length
  | n, [], acc, l, _, _, h => by
    rw [pfrom_nil] at h
    cases h
    simp
  | 0, b :: s, acc, l, hn, _, _ => by simp at hn
  | n + 1, b :: s, acc, l, hn, h256, h => by
    cases e : stepL nmB kyB (b :: s) with
    | none => rw [pfrom_none acc (by simp) e] at h; cases h
    | some x =>
      obtain ⟨p, r⟩ := x
      obtain ⟨h1, _, h3⟩ := stepL_le e
      rw [pfrom_step acc e] at h
      rw [List.length_cons] at h1 hn h3 h256 ⊢
      have := pfrom_tsum n r (addP acc p) l (by omega) (by omega) h
      have hl := addP_tsum acc p
      omega
theorem parseE_text (s : List UInt8) : ∀ q ∈ (parseE s).1, q.text.length ≤ 65536 := fun q hq => by
  unfold parseE at hq
  split at hq
  · cases hq
  · split at hq
    · cases hq
    · split at hq
      · cases hq
      · rename_i h0 _ _ l e
        have h1 := pfrom_tsum s.length s [] l (Nat.le_refl _) (by omega) e
        have h2 : q.text.length ≤ tsum l := tsum_mem hq
        have h3 : tsum [] = 0 := rfl
        omega
end Go.Proofs.YtfpkppgecmbglaaGreatDoor
