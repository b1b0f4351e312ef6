/- The reference's Clean: the walk. -/
import Derived.Test.YtfcfooipoiomkaaDoorU
import Derived.Test.YtfcfooipoiomkaaDoorY
import Derived.Lib.ConvBytes
import Derived.Laws.BytesArg
import Derived.Maps.OwnIn
namespace Go.Proofs.YtfcfooipoiomkaaDoor
open Go.RowKit

/-- Block b holds the bytes l, none of them frozen. -/
structure Bytes (W : World) (b : Nat) (l : List UInt8) : Prop where
  cell : ∀ (j : Nat) x, l[j]? = some x → W.cell? ⟨b, j, none⟩ = some (u8v x)
  frz : ∀ (j : Nat), j < l.length → W.frozen? ⟨b, j, none⟩ = false

theorem bytes_conv (w : World) (s : ByteArray) : Bytes (Lib.bytesWorld w 5 s) w.heap.size s.data.toList := by
  have hsz := Lib.size_eq s
  refine ⟨fun j x hx => ?_, fun j hj => ?_⟩
  · have hj : j < s.size := by rw [hsz]; exact (List.getElem?_eq_some_iff.1 hx).1
    rw [Lib.bytesWorld_cell w 5 s j hj, List.getD_eq_getElem?_getD, hx]
    rfl
  · have h := Lib.bytesWorld_at_new w 5 s
    have hc : s.size ≤ (Lib.bytesCells w 5 s).size := by
      unfold Lib.bytesCells
      simp
    unfold World.frozen?
    rw [h]
    simp
    omega
theorem conv_below (w : World) (s : ByteArray) : Below w.heap.size w (Lib.bytesWorld w 5 s) :=
  ⟨rfl, rfl, rfl, by rw [Lib.bytesWorld_size]; omega, fun k hk => Lib.bytesWorld_at_old w 5 s k hk⟩

theorem Bytes.set {W : World} {b : Nat} {l : List UInt8} (h : Bytes W b l) {i : Nat} {y : UInt8} (hi : i < l.length) : Bytes (W.setCell ⟨b, i, none⟩ (u8v y)) b (l.set i y) := by
  refine ⟨fun j x hx => ?_, fun j hj => ?_⟩
  · rw [List.getElem?_set] at hx
    by_cases e : i = j
    · subst e
      rw [if_pos rfl, if_pos hi] at hx
      obtain rfl := Option.some.inj hx
      have hc := h.cell i _ (List.getElem?_eq_getElem hi)
      exact World.cell?_setCell_same' _ _ _ (by rw [hc]; rfl)
    · rw [if_neg e] at hx
      rw [World.cell?_setCell_other (h := show (⟨b, i, none⟩ : Addr) ≠ ⟨b, j, none⟩ from fun h => e (by injection h))]
      exact h.cell j x hx
  · rw [World.frozen?_setCell]
    exact h.frz j (by rw [List.length_set] at hj; exact hj)

/-- The first i bytes are cleaned. -/
def mix (l : List UInt8) (i : Nat) : List UInt8 := (l.take i).map clean2 ++ l.drop i
theorem mix_zero (l : List UInt8) : mix l 0 = l := by simp [mix]
theorem mix_all (l : List UInt8) (i : Nat) (h : l.length ≤ i) : mix l i = l.map clean2 := by simp [mix, List.take_of_length_le h, List.drop_of_length_le h]
theorem mix_len (l : List UInt8) (i : Nat) : (mix l i).length = l.length := by simp [mix]; omega
theorem mix_get (l : List UInt8) (i : Nat) (x : UInt8) (h : l[i]? = some x) : (mix l i)[i]? = some x := by
  have hi := (List.getElem?_eq_some_iff.1 h).1
  unfold mix
  rw [List.getElem?_append_right (by simp; omega)]
  simp [Nat.min_eq_left (Nat.le_of_lt hi), h]
theorem mix_succ (l : List UInt8) (i : Nat) (x : UInt8) (h : l[i]? = some x) : mix l (i + 1) = (mix l i).set i (clean2 x) := by
  obtain ⟨hi, rfl⟩ := List.getElem?_eq_some_iff.1 h
  apply List.ext_getElem?
  intro j
  unfold mix
  simp only [List.getElem?_append, List.getElem?_set, List.length_map, List.length_take, List.length_append, List.length_drop, List.getElem?_map, List.getElem?_take, List.getElem?_drop]
  rw [Nat.min_eq_left (show i + 1 ≤ l.length from hi), Nat.min_eq_left (Nat.le_of_lt hi)]
  rcases Nat.lt_trichotomy j i with h1 | h1 | h1
  · simp [h1, Nat.lt_succ_of_lt h1, show i ≠ j by omega]
  · subst h1
    simp [h]
    omega
  · simp [show ¬ j < i by omega, show ¬ j < i + 1 by omega, show i ≠ j by omega, show i + 1 + (j - (i + 1)) = j by omega, show i + (j - i) = j by omega]
theorem set_same (l : List UInt8) (i : Nat) (x : UInt8) (h : l[i]? = some x) : l.set i x = l := by
  obtain ⟨hi, rfl⟩ := List.getElem?_eq_some_iff.1 h
  exact List.set_getElem_self hi

theorem bytes_string {W : World} {b n cap : Nat} {l : List UInt8} (h : Bytes W b l) (hn : l.length = n) : (convert 59 9 (.slice (some ⟨b, 0, none⟩) n cap)).run Tryd.prog W = .ok (.string ⟨l.toArray⟩) W := by
  have := run_convert_bytes_arg (P := Tryd.prog) W 59 5 Tryd.underlying59 Tryd.underlying5 b 0 n cap (l.map fun b => (b.toNat : Int)) (by simp [hn]) (fun i hi => by
    rw [Nat.zero_add]
    have hi' : i < l.length := by omega
    rw [h.cell i _ (List.getElem?_eq_getElem hi')]
    simp [u8v, List.getElem?_eq_getElem hi']) 9 Tryd.underlying9
  rw [this]
  congr 2
  unfold strOfNums
  simp [List.map_map, Function.comp_def]

theorem info9 : (Tryd.prog.info? 9).map (fun i => (i.zero, i.size, i.bytes)) = some (some (.string ByteArray.empty), 1, 16) := by kernel_rfl

def kept (xs : List ByteArray) : List ByteArray := xs.filter fun x => keep x.data.toList
theorem kept_len (xs : List ByteArray) (i : Nat) : (kept (xs.take i)).length ≤ xs.length := Nat.le_trans (List.length_filter_le ..) (by simp; omega)
theorem kept_succ {xs : List ByteArray} {i : Nat} {x : ByteArray} (h : xs[i]? = some x) : kept (xs.take (i + 1)) = kept (xs.take i) ++ if keep x.data.toList then [x] else [] := by
  unfold kept
  rw [List.take_add_one, h, List.filter_append]
  congr 1
  by_cases hk : keep x.data.toList = true
  · rw [if_pos hk]; simp [Option.toList, hk]
  · rw [if_neg hk]; simp [Option.toList, hk]
theorem kept_pieces (t : ByteArray) : (kept (piecesB 47 t)).map (fun x => x.data.toList) = (pieces 47 t.data.toList).filter keep := by
  unfold kept piecesB
  rw [List.filter_map, List.map_map]
  simp [Function.comp_def]
theorem mem_piecesB (t : ByteArray) (p : List UInt8) : (∃ x ∈ piecesB 47 t, x.data.toList = p) ↔ p ∈ pieces 47 t.data.toList := by
  unfold piecesB
  constructor
  · rintro ⟨x, hx, rfl⟩
    obtain ⟨q, hq, rfl⟩ := List.mem_map.1 hx
    exact hq
  · intro h
    exact ⟨⟨p.toArray⟩, List.mem_map.2 ⟨p, h, rfl⟩, rfl⟩

theorem grown_below9 {B : Nat} {w w1 : World} {v : Value} {k : Nat} {xs : List Value} {tmp : Obj} (hrow : w.ownsRow B 9 1 v k xs) (hB : B ≤ w.heap.size) (hg : (w.alloc tmp).grownBy w1 v.ownBlock) : Below B w w1 :=
  ((Below.refl B w).alloc hB tmp).grown hg (by simp; omega) fun j ej => by
    rcases hrow.2 with ⟨rfl, _⟩ | ⟨g, cap, cur, rfl, hb, _, _⟩
    · simp [Value.ownBlock] at ej
    · obtain rfl : g = j := by simpa [Value.ownBlock] using ej
      exact hb

theorem join_any (B : Nat) (v : Value) (K : List ByteArray) (w : World) (hrow : w.ownsRow B 9 1 v K.length (K.map Value.string)) (hK : K.length ≤ 1000000) (hJ : (joinP 47 (K.map fun x => x.data.toList)).length ≤ 1000000) :
    Calls Tryd.prog 53 #[v, .string ⟨#[47]⟩] w fun e w' => e = .returned (.string ⟨(joinP 47 (K.map fun x => x.data.toList)).toArray⟩) ∧ Below w.heap.size w w' := by
  cases K with
  | nil =>
    obtain ⟨a, c, rfl⟩ : ∃ a c, v = .slice a 0 c := by
      rcases hrow.2 with ⟨rfl, _⟩ | ⟨g, cap, cur, rfl, _⟩
      · exact ⟨_, _, rfl⟩
      · exact ⟨_, _, rfl⟩
    refine (Tryd.strings_Join_none a c ⟨#[47]⟩ w).mono ?_
    rintro e w' ⟨rfl, rfl⟩
    exact ⟨rfl, Below.refl _ _⟩
  | cons x K =>
    have hr := hrow
    rcases hrow.2 with ⟨_, h0⟩ | ⟨g, cap, cur, rfl, _, hg, hcap, _, _, _⟩
    · cases h0
    · have h := Tryd.strings_Join g 0 cap (x :: K) ⟨#[47]⟩ w (fun j y hy => by
        have h1 := hr.cells (g := g) rfl j (.string y) (by rw [List.getElem?_map, hy]; rfl)
        rw [show ((⟨g, 0, none⟩ : Addr).add j) = ⟨g, 0 + j, none⟩ from by by_cases h : j = 0 <;> simp [Addr.add, h]] at h1
        exact h1) (Array.getElem?_eq_some_iff.1 hg).1 (by omega) hcap (by rw [List.map_cons, show (⟨#[47]⟩ : ByteArray).data.toList = [47] from rfl, lib_join, ← List.map_cons (f := fun x : ByteArray => x.data.toList)]; omega)
      rw [List.map_cons, show (⟨#[47]⟩ : ByteArray).data.toList = [47] from rfl, lib_join, ← List.map_cons (f := fun x : ByteArray => x.data.toList)] at h
      exact h
theorem joinRes (l : List UInt8) : ∃ rt rk, refCleanB l = (rt, rk) ∧ ([46, 46] ∈ pieces 47 (l.map clean2) → rt = [] ∧ rk = false) ∧ ([46, 46] ∉ pieces 47 (l.map clean2) →
    (joinP 47 ((pieces 47 (l.map clean2)).filter keep) = [] ∨ 256 < (joinP 47 ((pieces 47 (l.map clean2)).filter keep)).length → rt = [] ∧ rk = false) ∧
    (joinP 47 ((pieces 47 (l.map clean2)).filter keep) ≠ [] → (joinP 47 ((pieces 47 (l.map clean2)).filter keep)).length ≤ 256 → rt = joinP 47 ((pieces 47 (l.map clean2)).filter keep) ∧ rk = true)) := by
  refine ⟨(refCleanB l).1, (refCleanB l).2, rfl, ?_, ?_⟩
  · intro h
    unfold refCleanB
    rw [if_pos h]
    exact ⟨rfl, rfl⟩
  · intro h
    unfold refCleanB
    rw [if_neg h]
    refine ⟨fun h1 => ?_, fun h1 h2 => ?_⟩
    · rw [if_pos h1]; exact ⟨rfl, rfl⟩
    · rw [if_neg (by rintro (h | h); exact h1 h; omega)]; exact ⟨rfl, rfl⟩

set_option maxHeartbeats 4000000 in
set_option maxRecDepth 100000 in
theorem refClean_any (s : ByteArray) (m : Int) (w : World) (hs : s.size ≤ 600) (hm : w.cell? ⟨0, 0, none⟩ = some (.int .i64 m)) :
    Calls Tryd.prog 35 #[.string s] w (Bel (.tuple #[.string ⟨(refCleanB s.data.toList).1.toArray⟩, .bool (refCleanB s.data.toList).2]) w) := by
  have hsz := Lib.size_eq s
  obtain ⟨rt, rk, hr, hbad, hfin⟩ := joinRes s.data.toList
  rw [hr]
  clear hr
  have hJl := join_kept_len (s.data.toList.map clean2)
  obtain ⟨i0, hi0, hz0, hz1, hz2⟩ := info_parts info9
  have hcv := Lib.run_convert_string_bytes (P := Tryd.prog) w 9 59 5 s Tryd.underlying9 Tryd.underlying59 Tryd.underlying5
  have hby := bytes_conv w s
  have hbl := conv_below w s
  have hws : (Lib.bytesWorld w 5 s).heap.size = w.heap.size + 1 := Lib.bytesWorld_size w 5 s
  obtain ⟨n, hn⟩ : ∃ n, n = w.heap.size := ⟨_, rfl⟩
  generalize hWb : Lib.bytesWorld w 5 s = Wb at *
  generalize grownCap w s.size 0 5 = cap at *
  have Hby := Lib.hid hby
  have Hbl := Lib.hid hbl
  have Hm := Lib.hid hm
  have Hsz := Lib.hid hsz
  have Hbad := Lib.hid hbad
  have Hfin := Lib.hid hfin
  have HJl := Lib.hid hJl
  have Hi := Lib.hid (And.intro hi0 (And.intro hz0 (And.intro hz1 hz2)))
  clear hby hbl hm hsz hWb hbad hfin hJl hi0 hz0 hz1 hz2
  go_enter Tryd.func35, Tryd.ntmps35
  go_wp2
  go_loopw [5] (fun s5 wx => ∃ i : Nat, i ≤ s.size ∧ s5 = .int .i64 i ∧ Bytes wx w.heap.size (mix s.data.toList i) ∧ Below w.heap.size w wx) (fun s5 _ => s.size - (intOf s5).toNat)
  case atStart => exact ⟨0, by omega, rfl, by rw [mix_zero]; exact Hby.out, Hbl.out⟩
  case round =>
    obtain ⟨i, hi, rfl, hB, hb⟩ := hrel
    have HB := Lib.hid hB
    have Hb := Lib.hid hb
    clear hB hb
    by_cases hlt : i < s.size
    · have hiz : (i : Int) < (s.size : Int) := by omega
      obtain ⟨x, hxl⟩ : ∃ x, s.data.toList[i]? = some x := ⟨_, List.getElem?_eq_getElem (by rw [← Hsz.out]; exact hlt)⟩
      have hcell := HB.out.cell i x (mix_get _ i x hxl)
      have hfrz := HB.out.frz i (by rw [mix_len, ← Hsz.out]; exact hlt)
      have hx256 : (x.toNat : Int) < 256 := by have := UInt8.toNat_lt x; omega
      unfold u8v at hcell
      have hms := mix_succ s.data.toList i x hxl
      by_cases h47 : x = 47
      · subst h47
        rw [clean2, if_pos rfl, set_same _ i 47 (mix_get _ i 47 hxl)] at hms
        have Hms := Lib.hid hms
        clear hms hxl
        go_wp2
        exact ⟨⟨i + 1, by omega, by go_num, by rw [Hms.out]; exact HB.out, Hb.out⟩, by simp [intOf]; omega⟩
      · have hn : ((x.toNat : Int) != 47) = true := bne_iff_ne.2 fun e => h47 (UInt8.toNat_inj.1 (by simpa using (by omega : x.toNat = 47)))
        have hib := fun W => Tryd.strings_IndexByte ⟨#[65, 66, 67, 68, 69, 70, 71, 72, 73, 74, 75, 76, 77, 78, 79, 80, 81, 82, 83, 84, 85, 86, 87, 88, 89, 90, 97, 98, 99, 100, 101, 102, 103, 104, 105, 106, 107, 108, 109, 110, 111, 112, 113, 114, 115, 116, 117, 118, 119, 120, 121, 122, 48, 49, 50, 51, 52, 53, 54, 55, 56, 57, 95, 46, 58, 43, 45, 64, 35, 61, 37]⟩ (x.toNat : Int) W
        rw [u8_back, show (⟨#[65, 66, 67, 68, 69, 70, 71, 72, 73, 74, 75, 76, 77, 78, 79, 80, 81, 82, 83, 84, 85, 86, 87, 88, 89, 90, 97, 98, 99, 100, 101, 102, 103, 104, 105, 106, 107, 108, 109, 110, 111, 112, 113, 114, 115, 116, 117, 118, 119, 120, 121, 122, 48, 49, 50, 51, 52, 53, 54, 55, 56, 57, 95, 46, 58, 43, 45, 64, 35, 61, 37]⟩ : ByteArray).data.toList = LinkSet from rfl] at hib
        have hc2 : clean2 x = if LinkSet.contains x then x else 95 := by rw [clean2, if_neg h47]; rfl
        rw [hc2] at hms
        cases hc : LinkSet.contains x with
        | false =>
          rw [hc, if_neg Bool.false_ne_true] at hms
          rw [index_neg hc] at hib
          have hst := HB.out.set (y := 95) (i := i) (by rw [mix_len, ← Hsz.out]; exact hlt)
          rw [← hms] at hst
          have Hst := Lib.hid hst
          have Hib := Lib.hid hib
          clear hms hxl hst hib hc hc2 h47
          go_wp2_with (go_at_call 60; refine (Hib.out _).mono ?_; rintro e w' ⟨rfl, rfl⟩)
          exact ⟨⟨i + 1, by omega, by go_num, Hst.out, Hb.out.setCell (Nat.le_refl _) _⟩, by simp [intOf]; omega⟩
        | true =>
          rw [hc, if_pos rfl, set_same _ i x (mix_get _ i x hxl)] at hms
          have hpos := index_pos hc
          generalize Lib.indexByte LinkSet x = k at *
          have Hms := Lib.hid hms
          have Hib := Lib.hid hib
          clear hms hxl hib hc hc2 h47
          go_wp2_with (go_at_call 60; refine (Hib.out _).mono ?_; rintro e w' ⟨rfl, rfl⟩)
          exact ⟨⟨i + 1, by omega, by go_num, by rw [Hms.out]; exact HB.out, Hb.out⟩, by simp [intOf]; omega⟩
    · have h : mix s.data.toList i = s.data.toList.map clean2 := mix_all _ _ (by rw [← Hsz.out]; omega)
      rw [h] at HB
      have hsl : (s.data.toList.map clean2).length = s.size := by rw [List.length_map, ← Hsz.out]
      have hbs := bytes_string (cap := cap) HB.out hsl
      have hxsz : (⟨(s.data.toList.map clean2).toArray⟩ : ByteArray).size = s.size := hsl
      obtain ⟨t, ht⟩ : ∃ t : ByteArray, (⟨(s.data.toList.map clean2).toArray⟩ : ByteArray) = t := ⟨_, rfl⟩
      rw [ht] at hbs hxsz
      have htl : s.data.toList.map clean2 = t.data.toList := by rw [← ht]
      rw [htl] at Hbad Hfin HJl
      have hnn : (piecesB 47 t).length ≤ t.size + 1 := by
        have h1 := Lib.splitB_all ⟨#[47]⟩ (by decide) 0 _ t rfl
        rw [splitB_pieces 47 _ t rfl] at h1
        have h2 := Lib.countB_le ⟨#[47]⟩ (by decide) t.size t (Nat.le_refl _)
        omega
      have hJ601 : (joinP 47 ((pieces 47 t.data.toList).filter keep)).length ≤ 602 := by have := HJl.out; rw [← Lib.size_eq] at this; omega
      have hkp := kept_pieces t
      have hmem := mem_piecesB t [46, 46]
      have Hsp := Lib.hid (split_slash t m wr (by omega) (max_below Hm.out Hb.out (Nat.le_refl _)))
      have hst := splitAt_strs wr (piecesB 47 t)
      have hbb := belT Hb.out (splitAt_below wr (piecesB 47 t))
      have hbsz := splitAt_size wr (piecesB 47 t)
      generalize splitAt wr (piecesB 47 t) = W2 at *
      obtain ⟨bx, hbx⟩ : ∃ bx, bx = wr.heap.size := ⟨_, rfl⟩
      rw [← hbx] at hst hbsz Hsp
      generalize piecesB 47 t = xs at *
      have hwb := hbb.size
      have Hst := Lib.hid hst
      have Hbb := Lib.hid hbb
      have Hkp := Lib.hid hkp
      have Hmem := Lib.hid hmem
      have HJ6 := Lib.hid hJ601
      clear h hst hbb hkp hmem hJ601 ht htl hbx HB Hb Hby Hbl hws hcv hsl HJl
      go_wp2_with fail
      refine Hsp.out.mono ?_
      rintro e w3 ⟨rfl, rfl⟩
      clear Hsp hbs
      go_wp2
      go_loopw [7, 8] (fun s7 s8 wx => ∃ i : Nat, i ≤ xs.length ∧ s8 = .int .i64 i ∧ wx.ownsRow w3.heap.size 9 1 s7 (kept (xs.take i)).length ((kept (xs.take i)).map Value.string) ∧ Below w3.heap.size w3 wx ∧ ∀ x ∈ xs.take i, x.data.toList ≠ [46, 46]) (fun _ s8 _ => xs.length - (intOf s8).toNat)
      case atStart => exact ⟨0, by omega, rfl, ⟨by simp [kept], .inl ⟨rfl, by simp [kept]⟩⟩, Below.refl _ _, by simp⟩
      case round =>
        obtain ⟨i, hi, rfl, hrow, hbl, hno⟩ := hrel
        have Hrow := Lib.hid hrow
        have Hbl := Lib.hid hbl
        have Hno := Lib.hid hno
        clear hrow hbl hno
        by_cases hlt : i < xs.length
        · have hiz : (i : Int) < (xs.length : Int) := by omega
          obtain ⟨x, hx⟩ : ∃ x, xs[i]? = some x := ⟨_, List.getElem?_eq_getElem hlt⟩
          have hcell := (Hbl.out.cell (p := ⟨bx, i, none⟩) (show bx < w3.heap.size by omega)).trans (Hst.out i x hx)
          have hks := kept_succ hx
          have hnos : x.data.toList ≠ [46, 46] → ∀ y ∈ xs.take (i + 1), y.data.toList ≠ [46, 46] := fun hne y hy => by
            rw [List.take_add_one, hx] at hy
            rcases List.mem_append.1 hy with h | h
            · exact Hno.out y h
            · obtain rfl : y = x := by simpa [Option.toList] using h
              exact hne
          have hxm := List.mem_of_getElem? hx
          clear hx
          by_cases h0 : x.data.toList = []
          · have he := empty_form h0
            rw [if_neg (by rw [keep_iff]; exact fun h => h.1 h0), List.append_nil] at hks
            have Hks := Lib.hid hks
            have Hnos := Lib.hid (hnos (by rw [h0]; decide))
            clear h0 hks hnos hxm
            go_wp2
            exact ⟨⟨i + 1, by omega, by go_num, by rw [Hks.out]; exact Hrow.out, Hbl.out, Hnos.out⟩, by simp [intOf]; omega⟩
          · have he := nonempty_form h0
            by_cases h46 : x.data.toList = [46]
            · have hq : x.toList = [46] := by rw [Lib.toList_data, h46]
              rw [if_neg (by rw [keep_iff]; exact fun h => h.2 h46), List.append_nil] at hks
              have Hks := Lib.hid hks
              have Hnos := Lib.hid (hnos (by rw [h46]; decide))
              clear h0 h46 hks hnos hxm
              go_wp2
              exact ⟨⟨i + 1, by omega, by go_num, by rw [Hks.out]; exact Hrow.out, Hbl.out, Hnos.out⟩, by simp [intOf]; omega⟩
            · have hq := ne_form h46
              by_cases h4646 : x.data.toList = [46, 46]
              · obtain ⟨h1, h2⟩ := Hbad.out (Hmem.out.1 ⟨x, hxm, h4646⟩)
                subst h1 h2
                have hq2 : x.toList = [46, 46] := by rw [Lib.toList_data, h4646]
                clear h0 h46 h4646 hks hnos hxm
                go_wp2
                go_ret2
                exact ⟨rfl, belT Hbb.out Hbl.out⟩
              · have hq2 := ne_form h4646
                rw [if_pos (by rw [keep_iff]; exact ⟨h0, h46⟩)] at hks
                have hkl := kept_len xs i
                have Hks := Lib.hid hks
                have Hnos := Lib.hid (hnos h4646)
                clear h0 h46 h4646 hks hnos hxm
                obtain ⟨hi0, hz0, hz1, hz2⟩ := Hi.out
                have hBw := Hbl.out.size
                go_wp2_with (at_builtin; refine wpList_append_own _ rfl _ _ 24 rfl w3.heap.size 9 i0 _ 1 16 Tryd.underlying24 hi0 hz0 hz1 hz2 rfl (by decide) _ _ _ rfl (Hrow.out.alloc _) ⟨wr.heap.size, 0, none⟩ 1 1 [.string x] rfl rfl (cell_one_new _ _ _) (by simp [Value.oneCell']) (by unfold maxLen; omega) (by omega) (by simp; omega) ?_; intro v' w1 hown' hgrow _; have Hown := Lib.hid hown'; have Hgrow := Lib.hid hgrow; clear hown' hgrow)
                refine ⟨⟨i + 1, by omega, by go_num, ?_, Hbl.out.trans (grown_below9 Hrow.out hBw Hgrow.out), Hnos.out⟩, by simp [intOf]; omega⟩
                have h := Hown.out
                rw [Hks.out, List.length_append, List.map_append]
                exact h
        · have hti : xs.take i = xs := List.take_of_length_le (by omega)
          rw [hti] at Hrow Hno
          have hnd := Hfin.out (fun h => by obtain ⟨x, hx, hd⟩ := Hmem.out.2 h; exact Hno.out x hx hd)
          have hja := join_any w3.heap.size u7 (kept xs) wr Hrow.out (Nat.le_trans (List.length_filter_le ..) (by omega)) (by rw [Hkp.out]; have := HJ6.out; omega)
          rw [Hkp.out] at hja
          have hj6 := HJ6.out
          generalize joinP 47 (List.filter keep (pieces 47 t.data.toList)) = J at *
          have hJs : (⟨J.toArray⟩ : ByteArray).size = J.length := rfl
          have hJl : (⟨J.toArray⟩ : ByteArray).data.toList = J := rfl
          have Hja := Lib.hid hja
          obtain ⟨hbd, hgd⟩ := hnd
          clear hja hti
          by_cases h0 : J = []
          · obtain ⟨h1, h2⟩ := hbd (.inl h0)
            have he := empty_form (s := ⟨J.toArray⟩) h0
            generalize (⟨J.toArray⟩ : ByteArray) = tt at *
            subst h1 h2
            clear hbd hgd hJs hJl h0
            go_wp2_with fail
            refine Hja.out.mono ?_
            rintro e w4 ⟨rfl, hb4⟩
            go_wp2
            go_ret2
            exact ⟨rfl, belT (belT Hbb.out Hbl.out) hb4⟩
          · have he := nonempty_form (s := ⟨J.toArray⟩) h0
            by_cases h256 : J.length ≤ 256
            · obtain ⟨h1, h2⟩ := hgd h0 h256
              have hle : ((⟨J.toArray⟩ : ByteArray).size : Int) ≤ 256 := by rw [hJs]; omega
              subst h1 h2
              generalize (⟨rt.toArray⟩ : ByteArray) = tt at *
              clear hbd hgd hJs hJl h0
              go_wp2_with fail
              refine Hja.out.mono ?_
              rintro e w4 ⟨rfl, hb4⟩
              go_wp2
              go_ret2
              exact ⟨rfl, belT (belT Hbb.out Hbl.out) hb4⟩
            · obtain ⟨h1, h2⟩ := hbd (.inr (by omega))
              have hle : ¬ ((⟨J.toArray⟩ : ByteArray).size : Int) ≤ 256 := by rw [hJs]; omega
              generalize (⟨J.toArray⟩ : ByteArray) = tt at *
              subst h1 h2
              clear hbd hgd hJs hJl h0
              go_wp2_with fail
              refine Hja.out.mono ?_
              rintro e w4 ⟨rfl, hb4⟩
              go_wp2
              go_ret2
              exact ⟨rfl, belT (belT Hbb.out Hbl.out) hb4⟩
end Go.Proofs.YtfcfooipoiomkaaDoor
