/- Rules in memory; the rules of the tape. -/
import Derived.Test.YtkkibibecgcbmaaGreatDoorKGy
namespace Go.Proofs.YtkkibibecgcbmaaGreatDoor
open Go.RowKit

/-- A rule: its file, its line, where its terms lie, its terms. -/
structure RV where
  file : List UInt8
  line : Int
  a : Option Addr
  n : Nat
  c : Nat
  l : List Tm
def rvC (x : RV) : Array Value := #[.string (bs x.file), .int .i64 x.line, .slice x.a x.n x.c]
set_option maxRecDepth 100000 in
noncomputable def rvT : RT RV where
  sz := 3
  ty := 63
  sl := 50
  bt := 48
  z := .agg #[.string ⟨#[]⟩, .int .i64 0, .slice none 0 0]
  cf := fun x => (rvC x).toList
  pos := by decide
  len := fun _ => rfl
  one := fun x v hv => by
    simp only [rvC, List.mem_cons, List.not_mem_nil, or_false] at hv
    rcases hv with rfl | rfl | rfl <;> rfl
  und := Tryz.underlying50
  info := by kernel_rfl
  zs := rfl
  btl := by decide
theorem rvRow {w : World} {b o : Nat} {l : List RV} (h : rvT.Row w b o l) {j : Nat} {x : RV} (hx : l[j]? = some x) :
    w.cell? ⟨b, o + j * 3, none⟩ = some (.string (bs x.file)) ∧ w.cell? ⟨b, o + j * 3 + 1, none⟩ = some (.int .i64 x.line) ∧ w.cell? ⟨b, o + j * 3 + 2, none⟩ = some (.slice x.a x.n x.c) :=
  ⟨h j x hx 0 _ rfl, h j x hx 1 _ rfl, h j x hx 2 _ rfl⟩
/-- The terms of a rule lie where it says, in a row of the call's own. -/
def Ins (W : World) (B : Nat) (x : RV) : Prop := tmT.Own W B (.slice x.a x.n x.c) x.l
theorem own_ne {W : World} {B B' : Nat} {v u : Value} {L : List RV} {m : List Tm} (h : rvT.Own W B v L) (h' : tmT.Own W B' u m) : ∀ b, v.ownBlock = some b → u.ownBlock ≠ some b := fun b hb hu => by
  rcases h.2 with ⟨hv, _⟩ | ⟨g, cap, cur, hv, _, hh, _⟩
  · rw [hv] at hb
    cases hb
  · rcases h'.2 with ⟨hv', _⟩ | ⟨g', cap', cur', hv', _, hh', _⟩
    · rw [hv'] at hu
      cases hu
    · rw [hv] at hb
      rw [hv'] at hu
      have e1 : g = b := by simpa [Value.ownBlock] using hb
      have e2 : g' = b := by simpa [Value.ownBlock] using hu
      subst e1
      subst e2
      rw [hh] at hh'
      exact absurd (Obj.cells.inj (Option.some.inj hh')).2.1 (by decide)
theorem Ins.kp0 {W W' : World} {B : Nat} {x : RV} (h : Ins W B x) (hk : Kp [] W W') : Ins W' B x := RT.Own.kp0 h hk
theorem Ins.tb {W W' : World} {B tb : Nat} {x : RV} (h : Ins W B x) (hB : tb < B) (hk : Kp [tb] W W') : Ins W' B x := own_tb h hB hk
theorem Ins.grown {W W' : World} {B : Nat} {v : Value} {L : List RV} {x : RV} {B' : Nat} (h : Ins W B x) (hv : rvT.Own W B' v L) (g : W.grownBy W' v.ownBlock) : Ins W' B x :=
  RT.Own.keep h fun b hb hu => g.block b hb fun e => own_ne hv h b e.symm hu
theorem rv_push {W W7 : World} {Nb B : Nat} {x : RV} {v : Value} {xs : List RV} (ho : rvT.Own W B v xs) (hN : W.heap.size = Nb) (hW : W.alloc (.cells (rvC x) 63) = W7) : Kp [] W W7 ∧ rvT.Own W7 B v xs ∧ W7.rangeAt Nb 0 (rvT.cf x) := by
  have hk1 : Kp [] W W7 := by rw [← hW]; exact (Kp.refl [] _).alloc _
  refine ⟨hk1, ho.kp0 hk1, fun j u hu => ?_⟩
  have h := heap_alloc_last W (.cells (rvC x) 63)
  rw [hW, hN] at h
  rw [Nat.zero_add, cell_of_row _ _ _ _ _ _ h]
  have : (rvC x).toList[j]? = some u := hu
  simpa using this
theorem oneAB {w : World} {tb n : Nat} (hn : n ≤ 900000) (h : Tq w tb n) (m : Nat) (hm : w.heap.size = m) : Calls Tryz.prog 36 #[.pointer (some ⟨tb, 0, none⟩), .slice (some ⟨m, 0, none⟩) 2 2] (w.alloc (.cells #[.string ⟨#[97]⟩, .string ⟨#[98]⟩] 9)) fun e w' => ∃ x : List UInt8, x.length ≤ 300 ∧ e = .returned (.string (bs x)) ∧ Tq w' tb (n + 1) ∧ Kp [tb] w w' := by
  obtain ⟨k, hk, h⟩ := h
  subst hm
  exact (one_short [[97], [98]] (by decide) (by decide) (by omega) h (by decide)).mono fun _ _ ⟨r, h1, h2, h3, h4⟩ => ⟨r, h1, h2, ⟨_, by omega, h3⟩, h4⟩
/-- A rule of the tape. -/
def RvOk (x : RV) : Prop := TermsOk x.l ∧ x.file.length ≤ 300 ∧ x.n = x.l.length
set_option maxRecDepth 100000 in
set_option maxHeartbeats 4000000 in
theorem rules_any {w : World} {tb n : Nat} (hn : n ≤ 700000) (htb : tb < w.heap.size) (h : Tq w tb n) : Calls Tryz.prog 28 #[.pointer (some ⟨tb, 0, none⟩)] w fun e w' => ∃ v L, e = .returned v ∧ rvT.Own w' w.heap.size v L ∧ L.length ≤ 8 ∧ (∀ x ∈ L, Ins w' w.heap.size x ∧ RvOk x) ∧ Kp [tb] w w' := by
  have HTB := Lib.hid htb
  have HQ0 := Lib.hid h
  have HK0 := Lib.hid (Kp.refl [tb] w)
  clear htb h
  go_enter Tryz.func28, Tryz.ntmps28
  go_wp2_with (go_at_call 35; refine Calls.mono (by with_reducible exact nextQ8 (by omega) HQ0.out) ?_; rintro e w2 ⟨r, hr, rfl, htq, hkp⟩; have HQ := Lib.hid htq; have HK := Lib.hid hkp; clear htq hkp)
  go_loopg [3, 4] r (fun g s3 s4 wx => ∃ (v : Value) (L : List RV), v = s3 ∧ s4 = .int .i64 (g : Int) ∧ rvT.Own wx w.heap.size v L ∧ L.length + g = r ∧ (∀ x ∈ L, Ins wx w.heap.size x ∧ RvOk x) ∧ Tq wx tb (n + 1 + 100 * L.length) ∧ Kp [tb] w wx)
  case atStart => exact ⟨_, [], rfl, rfl, RT.Own.nil _ _ _, by simp, (fun x hx => by cases hx), HQ.out, HK.out⟩
  case round =>
    obtain ⟨v, L, rfl, rfl, hov, hlr, hin, htq, hkp⟩ := hrel
    have HK := Lib.hid hkp
    have HO := Lib.hid hov
    have HI := Lib.hid hin
    have HQ := Lib.hid htq
    clear hkp hov hin htq
    by_cases hg0 : gk = 0
    · subst hg0
      go_wp2
      go_ret
      exact ⟨_, _, rfl, HO.out, by omega, HI.out, HK.out⟩
    · obtain ⟨g, rfl⟩ : ∃ g, gk = g + 1 := ⟨gk - 1, by omega⟩
      have hgz : (0 : Int) < ((g + 1 : Nat) : Int) := by omega
      have hws : IntKind.i64.wrap (((g + 1 : Nat) : Int) - 1) = (g : Int) := by rw [IntKind.wrap_i64]; omega
      have HXS := Lib.hid (show L.length ≤ 1000000 by omega)
      have HLL := Lib.hid (show L.length ≤ 8 by omega)
      go_wp2_with (first
        | (go_at_call 36; refine Calls.mono (by with_reducible exact oneAB (by have := HLL.out; omega) HQ.out _ rfl) ?_; rintro e w5 ⟨xf, hxf, rfl, htq, hkp⟩; have HXF := Lib.hid hxf; have HQ5 := Lib.hid htq; have HK5 := Lib.hid (HK.out.trans hkp); have HO5 := Lib.hid (HO.out.kp hkp fun b hb => by have := (HO.out.ge b hb).1; have := HTB.out; simp; omega); have HI5 := Lib.hid (fun x hx => (⟨(HI.out x hx).1.tb HTB.out hkp, (HI.out x hx).2⟩ : Ins w5 w.heap.size x ∧ RvOk x)); clear hxf htq hkp)
        | (go_at_call 34; refine Calls.mono (by with_reducible exact terms_any (by have := HLL.out; omega) (Nat.lt_of_lt_of_le HTB.out HK5.out.size) HQ5.out) ?_; rintro e w6 ⟨vt, lt, rfl, hot, hok, htq, hkp⟩; obtain ⟨at6, ct6, rfl⟩ := hot.form; have HQ6 := Lib.hid htq; have HOT := Lib.hid (hot.down HK5.out.size); have HOK := Lib.hid hok; have HK6 := Lib.hid (HK5.out.trans hkp); have HO6 := Lib.hid (HO5.out.kp hkp fun b hb => by have := (HO5.out.ge b hb).1; have := HTB.out; simp; omega); have HI6 := Lib.hid (fun x hx => (⟨(HI5.out x hx).1.tb HTB.out hkp, (HI5.out x hx).2⟩ : Ins w6 w.heap.size x ∧ RvOk x)); clear hot hok htq hkp; obtain ⟨Nb, hNb⟩ : ∃ Nb, w6.heap.size = Nb := ⟨_, rfl⟩; obtain ⟨w7, hw7⟩ : ∃ w7, w6.alloc (.cells #[.string (bs xf), .int .i64 ((g : Int) + 1), .slice at6 lt.length ct6] 63) = w7 := ⟨_, rfl⟩; have H7 := Lib.hid (rv_push (x := ⟨xf, ((g : Int) + 1), at6, lt.length, ct6, lt⟩) HO6.out hNb hw7); have HK7 := Lib.hid (HK6.out.upT H7.out.1); have HQ7 := Lib.hid (HQ6.out.kp0 H7.out.1))
        | (at_builtin; refine wpList_append_r (r := rvT) rfl (.tmp 11) (.tmp 19) rfl w.heap.size v L rfl H7.out.2.1 Nb 1 ⟨xf, ((g : Int) + 1), at6, lt.length, ct6, lt⟩ rfl H7.out.2.2 HXS.out HK7.out.size ?_; intro v8 w8 hown8 hgr8; have HO8 := Lib.hid hown8; have HK8 := Lib.hid (kp_grownS HK7.out hgr8 fun b hb => (H7.out.2.1.ge b hb).1); have HQ8 := Lib.hid (tq_grown HQ7.out HTB.out hgr8 fun b hb => (H7.out.2.1.ge b hb).1); have HI8 := Lib.hid (show ∀ x ∈ L ++ [(⟨xf, ((g : Int) + 1), at6, lt.length, ct6, lt⟩ : RV)], Ins w8 w.heap.size x ∧ RvOk x from fun x hx => by
            rcases List.mem_append.1 hx with hx | hx
            · exact ⟨((HI6.out x hx).1.kp0 H7.out.1).grown H7.out.2.1 hgr8, (HI6.out x hx).2⟩
            · rw [List.mem_singleton] at hx
              subst hx
              exact ⟨(Ins.kp0 (x := ⟨xf, ((g : Int) + 1), at6, lt.length, ct6, lt⟩) HOT.out H7.out.1).grown H7.out.2.1 hgr8, HOK.out, HXF.out, rfl⟩); clear hown8 hgr8))
      go_roundg g
      case measure => omega
      case rel => exact ⟨v8, _, rfl, by first | rfl | (congr 1; omega), HO8.out, by rw [List.length_append, List.length_singleton]; omega, HI8.out, by rw [List.length_append, List.length_singleton]; exact ⟨HQ8.out.choose, by have := HQ8.out.choose_spec.1; omega, HQ8.out.choose_spec.2⟩, HK8.out⟩
end Go.Proofs.YtkkibibecgcbmaaGreatDoor
