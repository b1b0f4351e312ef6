/- Same and SameDevice. -/
import Derived.Test.YthdnbcgomepgaaaDoorDa
import Derived.Test.YthdnbcgomepgaaaDoorDb
import Derived.Test.YthdnbcgomepgaaaDoorDc
import Derived.Test.YthdnbcgomepgaaaDoorDd
namespace Go.Proofs.YthdnbcgomepgaaaDoor
open Go.RowKit

theorem same_any (d e : Dev) (l m : List Atr) (w : World) (hl : l.length ≤ 9223372036854775807) (hd : Has w d.av l) (he : Has w e.av m) : Calls Tryd.prog 28 #[devV d, devV e] w (Bel (.bool (sameD d l e m)) w) := by
  obtain ⟨d0, d1, d2, d3, d4, d5, d6, d7, d8, dv⟩ := d
  obtain ⟨e0, e1, e2, e3, e4, e5, e6, e7, e8, ev⟩ := e
  unfold sameD
  simp only at hd he ⊢
  by_cases h0 : d0 = e0
  · subst h0
    by_cases h1 : d1 = e1
    · subst h1
      by_cases h2 : d2 = e2
      · subst h2
        by_cases h3 : d3 = e3
        · subst h3
          by_cases h4 : d4 = e4
          · subst h4
            by_cases h5 : d5 = e5
            · subst h5
              by_cases h6 : d6 = e6
              · subst h6
                by_cases h7 : d7 = e7
                · subst h7
                  by_cases h8 : d8 = e8
                  · subst h8
                    simp only [decide_true, Bool.true_and]
                    exact same_eq d0 d1 d2 d3 d4 d5 d6 d7 d8 dv ev l m w hl hd he
                  · rw [show decide (d8 = e8) = false from decide_eq_false h8]
                    simp only [decide_true, Bool.true_and, Bool.false_and]
                    exact same_ne8 d0 d1 d2 d3 d4 d5 d6 d7 d8 e8 dv ev w (beq_eq_false_iff_ne.2 h8)
                · rw [show decide (d7 = e7) = false from decide_eq_false h7]
                  simp only [decide_true, Bool.true_and, Bool.false_and]
                  exact same_ne7 d0 d1 d2 d3 d4 d5 d6 d7 e7 d8 e8 dv ev w (beq_eq_false_iff_ne.2 h7)
              · rw [show decide (d6 = e6) = false from decide_eq_false h6]
                simp only [decide_true, Bool.true_and, Bool.false_and]
                exact same_ne6 d0 d1 d2 d3 d4 d5 d6 e6 d7 e7 d8 e8 dv ev w (str_ne h6)
            · rw [show decide (d5 = e5) = false from decide_eq_false h5]
              simp only [decide_true, Bool.true_and, Bool.false_and]
              exact same_ne5 d0 d1 d2 d3 d4 d5 e5 d6 e6 d7 e7 d8 e8 dv ev w (str_ne h5)
          · rw [show decide (d4 = e4) = false from decide_eq_false h4]
            simp only [decide_true, Bool.true_and, Bool.false_and]
            exact same_ne4 d0 d1 d2 d3 d4 e4 d5 e5 d6 e6 d7 e7 d8 e8 dv ev w (str_ne h4)
        · rw [show decide (d3 = e3) = false from decide_eq_false h3]
          simp only [decide_true, Bool.true_and, Bool.false_and]
          exact same_ne3 d0 d1 d2 d3 e3 d4 e4 d5 e5 d6 e6 d7 e7 d8 e8 dv ev w (str_ne h3)
      · rw [show decide (d2 = e2) = false from decide_eq_false h2]
        simp only [decide_true, Bool.true_and, Bool.false_and]
        exact same_ne2 d0 d1 d2 e2 d3 e3 d4 e4 d5 e5 d6 e6 d7 e7 d8 e8 dv ev w (str_ne h2)
    · rw [show decide (d1 = e1) = false from decide_eq_false h1]
      simp only [decide_true, Bool.true_and, Bool.false_and]
      exact same_ne1 d0 d1 e1 d2 e2 d3 e3 d4 e4 d5 e5 d6 e6 d7 e7 d8 e8 dv ev w (beq_eq_false_iff_ne.2 h1)
  · rw [show decide (d0 = e0) = false from decide_eq_false h0]
    simp only [Bool.false_and]
    exact same_ne0 d0 e0 d1 e1 d2 e2 d3 e3 d4 e4 d5 e5 d6 e6 d7 e7 d8 e8 dv ev w (beq_eq_false_iff_ne.2 h0)

theorem sameDevice_any (d e : Dev) (l m : List Atr) (w : World) (hl : l.length ≤ 9223372036854775807) (hd : Has w d.av l) (he : Has w e.av m) : Calls Tryd.prog 29 #[devV d, devV e] w (Bel (.bool (sameD d l e m)) w) := by
  obtain ⟨d0, d1, d2, d3, d4, d5, d6, d7, d8, dv⟩ := d
  obtain ⟨e0, e1, e2, e3, e4, e5, e6, e7, e8, ev⟩ := e
  unfold sameD
  simp only at hd he ⊢
  by_cases h0 : d0 = e0
  · subst h0
    by_cases h1 : d1 = e1
    · subst h1
      by_cases h2 : d2 = e2
      · subst h2
        by_cases h3 : d3 = e3
        · subst h3
          by_cases h4 : d4 = e4
          · subst h4
            by_cases h5 : d5 = e5
            · subst h5
              by_cases h6 : d6 = e6
              · subst h6
                by_cases h7 : d7 = e7
                · subst h7
                  by_cases h8 : d8 = e8
                  · subst h8
                    simp only [decide_true, Bool.true_and]
                    exact sameDevice_eq d0 d1 d2 d3 d4 d5 d6 d7 d8 dv ev l m w hl hd he
                  · rw [show decide (d8 = e8) = false from decide_eq_false h8]
                    simp only [decide_true, Bool.true_and, Bool.false_and]
                    exact sameDevice_ne8 d0 d1 d2 d3 d4 d5 d6 d7 d8 e8 dv ev w (beq_eq_false_iff_ne.2 h8)
                · rw [show decide (d7 = e7) = false from decide_eq_false h7]
                  simp only [decide_true, Bool.true_and, Bool.false_and]
                  exact sameDevice_ne7 d0 d1 d2 d3 d4 d5 d6 d7 e7 d8 e8 dv ev w (beq_eq_false_iff_ne.2 h7)
              · rw [show decide (d6 = e6) = false from decide_eq_false h6]
                simp only [decide_true, Bool.true_and, Bool.false_and]
                exact sameDevice_ne6 d0 d1 d2 d3 d4 d5 d6 e6 d7 e7 d8 e8 dv ev w (str_ne h6)
            · rw [show decide (d5 = e5) = false from decide_eq_false h5]
              simp only [decide_true, Bool.true_and, Bool.false_and]
              exact sameDevice_ne5 d0 d1 d2 d3 d4 d5 e5 d6 e6 d7 e7 d8 e8 dv ev w (str_ne h5)
          · rw [show decide (d4 = e4) = false from decide_eq_false h4]
            simp only [decide_true, Bool.true_and, Bool.false_and]
            exact sameDevice_ne4 d0 d1 d2 d3 d4 e4 d5 e5 d6 e6 d7 e7 d8 e8 dv ev w (str_ne h4)
        · rw [show decide (d3 = e3) = false from decide_eq_false h3]
          simp only [decide_true, Bool.true_and, Bool.false_and]
          exact sameDevice_ne3 d0 d1 d2 d3 e3 d4 e4 d5 e5 d6 e6 d7 e7 d8 e8 dv ev w (str_ne h3)
      · rw [show decide (d2 = e2) = false from decide_eq_false h2]
        simp only [decide_true, Bool.true_and, Bool.false_and]
        exact sameDevice_ne2 d0 d1 d2 e2 d3 e3 d4 e4 d5 e5 d6 e6 d7 e7 d8 e8 dv ev w (str_ne h2)
    · rw [show decide (d1 = e1) = false from decide_eq_false h1]
      simp only [decide_true, Bool.true_and, Bool.false_and]
      exact sameDevice_ne1 d0 d1 e1 d2 e2 d3 e3 d4 e4 d5 e5 d6 e6 d7 e7 d8 e8 dv ev w (beq_eq_false_iff_ne.2 h1)
  · rw [show decide (d0 = e0) = false from decide_eq_false h0]
    simp only [Bool.false_and]
    exact sameDevice_ne0 d0 e0 d1 e1 d2 e2 d3 e3 d4 e4 d5 e5 d6 e6 d7 e7 d8 e8 dv ev w (beq_eq_false_iff_ne.2 h0)
end Go.Proofs.YthdnbcgomepgaaaDoor
