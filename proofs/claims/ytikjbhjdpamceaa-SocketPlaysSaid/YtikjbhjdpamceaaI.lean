/- What the tape, the socket and the two lists of SocketOrder hold. -/
import Derived.Test.YtikjbhjdpamceaaG
namespace Go.Proofs.Ytikjbhjdpamceaa
open Go.RowKit

theorem tape_new {w : World} {lv : Value} (hi : Ints w w.heap.size lv) : Tape (w.alloc (.cells #[lv, .int .i64 0] 26)) w.heap.size 0 :=
  ⟨lv, al_new _ _, hi.keep fun _ hb => al_old _ _ hb⟩
def Apart (v : Value) (s : List Nat) : Prop := ∀ b, v.ownBlock = some b → b ∉ s
theorem EOwn.form {w : World} {B : Nat} {v : Value} {l : List Ev} (h : EOwn w B v l) : ∃ a c, v = .slice a l.length c := by
  rcases h.2 with ⟨hv, hn⟩ | ⟨g, cap, cur, hv, _⟩
  · exact ⟨none, 0, by rw [hv, hn]⟩
  · exact ⟨_, _, hv⟩
theorem EOwn.lt {w : World} {B : Nat} {v : Value} {l : List Ev} (h : EOwn w B v l) : ∀ b, v.ownBlock = some b → b < w.heap.size := fun b hb => by
  rcases h.2 with ⟨hv, hn⟩ | ⟨g, cap, cur, hv, hB, hh, _⟩
  · rw [hv] at hb; cases hb
  · rw [hv] at hb
    cases hb
    exact block_lt hh
theorem EOwn.ge {w : World} {B : Nat} {v : Value} {l : List Ev} (h : EOwn w B v l) : ∀ b, v.ownBlock = some b → B ≤ b := fun b hb => by
  rcases h.2 with ⟨hv, hn⟩ | ⟨g, cap, cur, hv, hB, hh, _⟩
  · rw [hv] at hb; cases hb
  · rw [hv] at hb
    cases hb
    exact hB

/-- The places of a law that plays with one socket: the tape, the socket, its ring. -/
structure Places (w0 : World) (tb sb rb : Nat) : Prop where
  t : w0.heap.size ≤ tb
  ts : tb < sb
  tr : tb < rb
  sr : sb ≠ rb
structure Ord (w0 w : World) (tb sb rb cap k : Nat) (l sent got : List Ev) (sv gv : Value) (lost : Bool) : Prop where
  pl : Places w0 tb sb rb
  tape : Tape w tb k
  que : Que w sb rb cap l lost
  so : EOwn w (tb + 1) sv sent
  go : EOwn w (tb + 1) gv got
  sa : Apart sv [tb, sb, rb]
  ga : Apart gv [tb, sb, rb]
  sg : ∀ b, sv.ownBlock = some b → gv.ownBlock ≠ some b
  kp : Kp [] w0 w

variable {w0 w w' : World} {tb sb rb cap k : Nat} {l sent got : List Ev} {sv gv : Value} {lost : Bool}

theorem Ord.kp0 (h : Ord w0 w tb sb rb cap k l sent got sv gv lost) (hk : Kp [] w w') : Ord w0 w' tb sb rb cap k l sent got sv gv lost :=
  ⟨h.pl, h.tape.keep fun b hb => hk.block b (Nat.lt_of_le_of_lt hb h.tape.lt) (by simp), h.que.kp hk (by simp) (by simp), h.so.kp hk (fun _ _ => by simp), h.go.kp hk (fun _ _ => by simp), h.sa, h.ga, h.sg, h.kp.trans hk⟩
theorem Ord.next {k' : Nat} (h : Ord w0 w tb sb rb cap k l sent got sv gv lost) (ht : Tape w' tb k') (hk : Kp [tb] w w') : Ord w0 w' tb sb rb cap k' l sent got sv gv lost :=
  ⟨h.pl, ht, h.que.kp hk (by have := h.pl.ts; simp; omega) (by have := h.pl.tr; simp; omega), h.so.kp hk (fun b hb => by have := h.sa b hb; simp at this ⊢; exact this.1), h.go.kp hk (fun b hb => by have := h.ga b hb; simp at this ⊢; exact this.1), h.sa, h.ga, h.sg,
    h.kp.up hk (by simp; exact h.pl.t)⟩
/-- The tape lies apart from what the socket's own blocks hold. -/
theorem Tape.kp (h : Tape w tb k) {s : List Nat} (hk : Kp s w w') (hs : ∀ x ∈ s, tb < x) : Tape w' tb k :=
  h.keep fun b hb => hk.block b (Nat.lt_of_le_of_lt hb h.lt) fun e => by have := hs b e; omega
theorem Ord.sock {l' : List Ev} {lost' : Bool} (h : Ord w0 w tb sb rb cap k l sent got sv gv lost) (hq : Que w' sb rb cap l' lost') (hk : Kp [sb, rb] w w') : Ord w0 w' tb sb rb cap k l' sent got sv gv lost' :=
  ⟨h.pl, h.tape.kp hk (by simp; exact ⟨h.pl.ts, h.pl.tr⟩), hq, h.so.kp hk (fun b hb => by have := h.sa b hb; simp at this ⊢; exact this.2), h.go.kp hk (fun b hb => by have := h.ga b hb; simp at this ⊢; exact this.2), h.sa, h.ga, h.sg,
    h.kp.up hk (by have := h.pl.t; have := h.pl.ts; have := h.pl.tr; simp; omega)⟩

/-- An append to the list that was received. -/
theorem Ord.gain {v' : Value} {news : List Ev} (h : Ord w0 w tb sb rb cap k l sent got sv gv lost) 
    (ho : w'.ownsRow (tb + 1) 42 5 v' (got.length + news.length) (evsC got ++ evsC news)) (hg : w.grownBy w' gv.ownBlock) (ha : v'.ownBlock = gv.ownBlock ∨ v'.ownBlock = some w.heap.size) : Ord w0 w' tb sb rb cap k l sent (got ++ news) sv v' lost := by
  have hblk : ∀ b, b < w.heap.size → gv.ownBlock ≠ some b → w'.heap[b]? = w.heap[b]? := fun b hb hn => hg.block b hb fun e => hn e.symm
  have hap : Apart v' [tb, sb, rb] := fun b hb => by
    rcases ha with e | e
    · exact h.ga b (by rw [← e]; exact hb)
    · rw [e] at hb
      cases hb
      have h1 := h.tape.lt
      have h2 := h.que.lt
      simp
      omega
  have hn : ∀ b, b ∈ [tb, sb, rb] → gv.ownBlock ≠ some b := fun b hb e => h.ga b e hb
  refine ⟨h.pl, h.tape.keep fun b hb => hblk b (Nat.lt_of_le_of_lt hb h.tape.lt) fun e => ?_, h.que.keep (hblk _ h.que.lt.1 (hn _ (by simp))) (hblk _ h.que.lt.2.1 (hn _ (by simp))), h.so.keep fun b hb hv => hblk b hb (h.sg b hv), ?_, h.sa, hap, fun b hb => ?_, ⟨hg.os.trans h.kp.os, hg.tape.trans h.kp.tape, hg.output.trans h.kp.output, Nat.le_trans h.kp.size hg.size, fun b hb _ => (hblk b (Nat.lt_of_lt_of_le hb h.kp.size) fun e => ?_).trans (h.kp.block b hb (by simp))⟩⟩
  · have := h.go.ge b e
    omega
  · unfold EOwn
    rw [List.length_append, evsC_append]
    exact ho
  · rcases ha with e | e
    · rw [e]; exact h.sg b hb
    · rw [e]
      have := h.so.lt b hb
      intro he
      cases he
      omega
  · have := h.go.ge b e
    have := h.pl.t
    omega
/-- The two lists change places. -/
theorem Ord.swap (h : Ord w0 w tb sb rb cap k l sent got sv gv lost) : Ord w0 w tb sb rb cap k l got sent gv sv lost :=
  ⟨h.pl, h.tape, h.que, h.go, h.so, h.ga, h.sa, fun b hb e => h.sg b e hb, h.kp⟩
end Go.Proofs.Ytikjbhjdpamceaa
