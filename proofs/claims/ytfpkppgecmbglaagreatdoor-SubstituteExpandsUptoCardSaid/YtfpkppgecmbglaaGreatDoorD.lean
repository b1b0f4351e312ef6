/- isSmall, knowsBraces, textPiece, isPrintable, wordNumber. -/
import Derived.Test.YtfpkppgecmbglaaGreatDoorC
namespace Go.Proofs.YtfpkppgecmbglaaGreatDoor
open Go.RowKit

theorem az_iff (b : UInt8) : azCh b = (decide (97 ≤ (b.toNat : Int)) && decide ((b.toNat : Int) ≤ 122)) := by
  have := List.all_eq_true.1 (show ((List.range 256).all fun n => azCh (UInt8.ofNat n) == (decide (97 ≤ ((UInt8.ofNat n).toNat : Int)) && decide (((UInt8.ofNat n).toNat : Int) ≤ 122))) = true by decide +kernel) b.toNat (List.mem_range.2 (UInt8.toNat_lt b))
  simpa using this
theorem isSmall_any (b : UInt8) (w : World) : Calls Tryz.prog 72 #[.int .u8 (b.toNat : Int)] w fun e w' => e = .returned (.bool (azCh b)) ∧ w = w' := by
  have hv := az_iff b
  by_cases h1 : 97 ≤ (b.toNat : Int)
  · by_cases h2 : (b.toNat : Int) ≤ 122
    · rw [hv, decide_eq_true h1, decide_eq_true h2]
      clear hv
      go_enter Tryz.func72, Tryz.ntmps72
      go_wp2
      go_ret
      exact ⟨rfl, rfl⟩
    · rw [hv, decide_eq_true h1, decide_eq_false h2]
      clear hv
      go_enter Tryz.func72, Tryz.ntmps72
      go_wp2
      go_ret
      exact ⟨rfl, rfl⟩
  · rw [hv, decide_eq_false h1, Bool.false_and]
    clear hv
    go_enter Tryz.func72, Tryz.ntmps72
    go_wp2
    go_ret
    exact ⟨rfl, rfl⟩
def brK (k : Int) : Bool := decide (k = 7) || (decide (k = 8) || decide (k = 9))
theorem knowsBraces_any (k : Int) (w : World) : Calls Tryz.prog 102 #[.int .i64 k] w fun e w' => e = .returned (.bool (brK k)) ∧ w = w' := by
  by_cases h7 : k = 7
  · subst h7
    go_enter Tryz.func102, Tryz.ntmps102
    go_wp2
    go_ret
    exact ⟨rfl, rfl⟩
  by_cases h8 : k = 8
  · subst h8
    go_enter Tryz.func102, Tryz.ntmps102
    go_wp2
    go_ret
    exact ⟨rfl, rfl⟩
  by_cases h9 : k = 9
  · subst h9
    go_enter Tryz.func102, Tryz.ntmps102
    go_wp2
    go_ret
    exact ⟨rfl, rfl⟩
  have h7' : (k == 7) = false := by simpa using h7
  have h8' : (k == 8) = false := by simpa using h8
  have h9' : (k == 9) = false := by simpa using h9
  have hb : brK k = false := by simp [brK, h7, h8, h9]
  rw [hb]
  go_enter Tryz.func102, Tryz.ntmps102
  go_wp2
  go_ret
  exact ⟨rfl, rfl⟩
set_option maxRecDepth 100000 in
theorem isPrintable_any (l : List UInt8) (w : World) (hl : l.length ≤ 1000000000000) : Calls Tryz.prog 67 #[.string (bs l)] w fun e w' => e = .returned (.bool (l.all prCh)) ∧ w = w' := by
  have hpr : ∀ x : UInt8, prCh x = (decide (32 ≤ (x.toNat : Int)) && decide ((x.toNat : Int) ≤ 126)) := fun x => by
    have := List.all_eq_true.1 (show ((List.range 256).all fun n => prCh (UInt8.ofNat n) == (decide (32 ≤ ((UInt8.ofNat n).toNat : Int)) && decide (((UInt8.ofNat n).toNat : Int) ≤ 126))) = true by decide +kernel) x.toNat (List.mem_range.2 (UInt8.toNat_lt x))
    simpa using this
  have HPR := Lib.hid hpr
  clear hpr
  have hsz : (bs l).size = l.length := rfl
  obtain ⟨res, hres⟩ : ∃ res, l.all prCh = res := ⟨_, rfl⟩
  rw [hres]
  have Hres := Lib.hid hres
  clear hres
  go_enter Tryz.func67, Tryz.ntmps67
  go_wp2
  go_loop [6] (fun s6 => ∃ i : Nat, i ≤ l.length ∧ s6 = .int .i64 i ∧ (l.take i).all prCh = true) (fun s6 => l.length - (intOf s6).toNat)
  case atStart => exact ⟨0, by omega, rfl, rfl⟩
  case round =>
    obtain ⟨i, hi, rfl, hall⟩ := hrel
    have Hall := Lib.hid hall
    clear hall
    by_cases hlt : i < l.length
    · have hiz : (i : Int) < ((bs l).size : Int) := by omega
      have hlt' : i < (bs l).size := by omega
      obtain ⟨x, hx⟩ : ∃ x : UInt8, l[i] = x := ⟨_, rfl⟩
      have hxl : l[i]? = some x := by rw [← hx]; exact List.getElem?_eq_getElem hlt
      have hg : (bs l)[i]'hlt' = x := (bs_get l i hlt).trans hx
      have hd := HPR.out x
      have hfalse : prCh x = false → res = false := fun h => by
        rw [← Hres.out]
        refine Bool.eq_false_iff.2 fun h' => ?_
        have := List.all_eq_true.1 h' x (List.mem_of_getElem? hxl)
        rw [h] at this
        cases this
      by_cases h1 : 32 ≤ (x.toNat : Int)
      · by_cases h2 : (x.toNat : Int) ≤ 126
        · rw [decide_eq_true h1, decide_eq_true h2] at hd
          have ht : (l.take (i + 1)).all prCh = true := by
            rw [List.take_add_one, hxl]
            simp only [Option.toList, List.all_append, Hall.out, List.all_cons, hd, List.all_nil]
            rfl
          have Ht := Lib.hid ht
          clear ht hxl hd hfalse hx
          go_wp2
          go_round
          case rel => exact ⟨i + 1, by omega, by go_num, Ht.out⟩
          case measure => simp [intOf]; omega
        · rw [decide_eq_true h1, decide_eq_false h2] at hd
          obtain rfl := hfalse hd
          clear hd hxl hfalse hx
          go_wp2
          go_ret
          exact ⟨rfl, rfl⟩
      · rw [decide_eq_false h1, Bool.false_and] at hd
        obtain rfl := hfalse hd
        clear hd hxl hfalse hx
        go_wp2
        go_ret
        exact ⟨rfl, rfl⟩
    · have hiz : ¬ ((i : Int) < ((bs l).size : Int)) := by omega
      have hr : res = true := by rw [← Hres.out, ← Hall.out, List.take_of_length_le (by omega)]
      subst hr
      go_wp2
      go_ret
      exact ⟨rfl, rfl⟩
theorem PAt.put0 {w : World} {b : Nat} {x : Gp} (h : PAt w b x) (k : Int) : PAt (w.setCell ⟨b, 0, none⟩ (.int .i64 k)) b { x with kind := k } := by
  unfold PAt gpC at h ⊢
  simp [World.setCell, Array.getElem?_modify, h]
theorem PAt.put1 {w : World} {b : Nat} {x : Gp} (h : PAt w b x) (l : List UInt8) : PAt (w.setCell ⟨b, 1, none⟩ (.string (bs l))) b { x with text := l } := by
  unfold PAt gpC at h ⊢
  simp [World.setCell, Array.getElem?_modify, h]
theorem PAt.put2 {w : World} {b : Nat} {x : Gp} (h : PAt w b x) (k : Int) : PAt (w.setCell ⟨b, 2, none⟩ (.int .i64 k)) b { x with word := k } := by
  unfold PAt gpC at h ⊢
  simp [World.setCell, Array.getElem?_modify, h]
theorem PAt.put3 {w : World} {b : Nat} {x : Gp} (h : PAt w b x) (k : Bool) : PAt (w.setCell ⟨b, 3, none⟩ (.bool k)) b { x with more := k } := by
  unfold PAt gpC at h ⊢
  simp [World.setCell, Array.getElem?_modify, h]
theorem PAt.frz {w : World} {b o : Nat} {x : Gp} (h : PAt w b x) : w.frozen? ⟨b, o, none⟩ = false := by simp [World.frozen?, show w.heap[b]? = _ from h]
theorem PAt.other {w : World} {b : Nat} {x : Gp} (h : PAt w b x) {p : Addr} (hp : b ≠ p.block) (v : Value) : PAt (w.setCell p v) b x := (Below.heap_setCell _ _ _ _ hp).trans h
/-- A whole piece laid over a block that holds one. -/
theorem PAt.all {w : World} {b : Nat} {x : Gp} (h : PAt w b x) (y : Gp) : PAt ((((w.setCell ⟨b, 0, none⟩ (.int .i64 y.kind)).setCell ⟨b, 1, none⟩ (.string (bs y.text))).setCell ⟨b, 2, none⟩ (.int .i64 y.word)).setCell ⟨b, 3, none⟩ (.bool y.more)) b y :=
  (((h.put0 y.kind).put1 y.text).put2 y.word).put3 y.more
theorem Kp.setAll {S : List Nat} {w W : World} (h : Kp S w W) {b : Nat} (hb : w.heap.size ≤ b) (x y z u : Value) : Kp S w ((((W.setCell ⟨b, 0, none⟩ x).setCell ⟨b, 1, none⟩ y).setCell ⟨b, 2, none⟩ z).setCell ⟨b, 3, none⟩ u) :=
  (((h.setCell (p := ⟨b, 0, none⟩) (.inr hb) x).setCell (p := ⟨b, 1, none⟩) (.inr hb) y).setCell (p := ⟨b, 2, none⟩) (.inr hb) z).setCell (p := ⟨b, 3, none⟩) (.inr hb) u
def gp0 : Gp := ⟨0, [], 0, false⟩
theorem PAt.new (w : World) (x : Gp) : PAt (w.alloc (.cells (gpC x) 61)) w.heap.size x := heap_alloc_last w _
set_option maxHeartbeats 1000000 in
theorem pc_end1 {fn : Func} {p : Nat} {a : Act} {W : World} {R : Nat} {x : Gp} {Q : Ending → World → Prop} (hr : fn.results = #[.cell p 61]) (h : PAt W R x) (h2 : a.tmps.getD p undef = .pointer (some ⟨R, 0, none⟩)) (hd : a.defers = [])
    (hq : Q (.returned (.agg (gpC x))) W) : bodyPost Tryz.prog fn Q .ret a W := by
  obtain ⟨z0, z1, z2, z3⟩ := h.cells
  refine bodyPost_ret (v := .agg (gpC x)) ?_ hd hq
  rw [Array.getD_eq_getD_getElem?] at h2
  simp [results, hr, go_sem, h2, z0, z1, z2, z3]
  rfl
set_option maxHeartbeats 1000000 in
theorem pc_end3 {fn : Func} {p q r : Nat} {a : Act} {W : World} {R : Nat} {x : Gp} {b e : Value} {Q : Ending → World → Prop} (hr : fn.results = #[.cell p 61, .tmp q, .tmp r]) (h : PAt W R x) (h2 : a.tmps.getD p undef = .pointer (some ⟨R, 0, none⟩)) (h3 : a.tmps.getD q undef = b) (h4 : a.tmps.getD r undef = e) (hd : a.defers = [])
    (hq : Q (.returned (.tuple #[.agg (gpC x), b, e])) W) : bodyPost Tryz.prog fn Q .ret a W := by
  obtain ⟨z0, z1, z2, z3⟩ := h.cells
  refine bodyPost_ret (v := .tuple #[.agg (gpC x), b, e]) ?_ hd hq
  rw [Array.getD_eq_getD_getElem?] at h2 h3 h4
  simp [results, hr, go_sem, h2, h3, h4, z0, z1, z2, z3]
  rfl
set_option maxRecDepth 100000 in
theorem textPiece_any (s : List UInt8) (w : World) : Calls Tryz.prog 60 #[.string (bs s)] w fun e w' => e = .returned (.agg (gpC ⟨1, s, 0, false⟩)) ∧ Kp [] w w' := by
  have H1 := Lib.hid (PAt.new w ⟨1, s, 0, false⟩)
  go_enter Tryz.func60, Tryz.ntmps60
  go_wp2
  exact pc_end1 rfl H1.out rfl rfl ⟨rfl, (Kp.refl [] w).alloc _⟩
set_option maxRecDepth 100000 in
theorem wordNumber_any {w : World} (hE : Env w) (s : List UInt8) (hs : s.length ≤ 1000000) : Calls Tryz.prog 105 #[.string (bs s)] w fun e w' => e = .returned (.int .i64 (wnum s)) ∧ Kp [] w w' := by
  have HE := Lib.hid hE
  by_cases hv : ∃ v, Lib.atoiAll s = .ok v
  · obtain ⟨v, hv⟩ := hv
    have hb := Lib.atoiAll_bounds hv
    have HA := Lib.hid fun W => atoi_ok (w := W) s hs v hv
    have HI := Lib.hid fun (W : World) (h : Kp [] w W) => itoa_any (hE.kp0 h) v (by omega) (by omega)
    by_cases hi : Lib.itoa v = s
    · have hr : wnum s = v := by unfold wnum; rw [hv]; simp only; rw [if_pos hi]
      rw [hr]
      rw [hi] at HI
      clear hv hb hr hi hE
      go_enter Tryz.func105, Tryz.ntmps105
      go_wp2_with (first
        | (go_at_call 129; refine Calls.mono (by with_reducible exact HA.out _) ?_; rintro e w1 ⟨rfl, hk1⟩)
        | (go_at_call 71; refine Calls.mono (by with_reducible exact HI.out _ (by assumption)) ?_; rintro e w2 ⟨rfl, hk2⟩))
      go_ret
      exact ⟨rfl, hk1.trans hk2⟩
    · have hr : wnum s = 0 := by unfold wnum; rw [hv]; simp only; rw [if_neg hi]
      rw [hr]
      have hne : ((bs (Lib.itoa v)).toList == (bs s).toList) = false := by
        rw [Lib.toList_data, Lib.toList_data, bs_data, bs_data]
        simpa using hi
      have hne2 : ¬ ((bs (Lib.itoa v)).toList = (bs s).toList) := by simpa using hne
      clear hv hb hr hi hE
      go_enter Tryz.func105, Tryz.ntmps105
      go_wp2_with (first
        | (go_at_call 129; refine Calls.mono (by with_reducible exact HA.out _) ?_; rintro e w1 ⟨rfl, hk1⟩)
        | (go_at_call 71; refine Calls.mono (by with_reducible exact HI.out _ (by assumption)) ?_; rintro e w2 ⟨rfl, hk2⟩))
      go_ret
      exact ⟨rfl, hk1.trans hk2⟩
  · have hr : wnum s = 0 := by
      unfold wnum
      split
      · rename_i v hv'
        exact absurd ⟨v, hv'⟩ hv
      · rfl
    rw [hr]
    have HB := Lib.hid fun (W : World) (h : Kp [] w W) => atoi_bad (hE.kp0 h) s hs (fun v h => hv ⟨v, h⟩)
    have hk0 := Kp.refl [] w
    clear hv hr hE
    go_enter Tryz.func105, Tryz.ntmps105
    go_wp2_with (first
      | (go_at_call 129; refine Calls.mono (by with_reducible exact HB.out _ (by assumption)) ?_; rintro e w1 ⟨v, N, rfl, hk1⟩))
    go_ret
    exact ⟨rfl, hk1⟩
end Go.Proofs.YtfpkppgecmbglaaGreatDoor
