/-
  Three samples, every value turned (2^64 - 1 less it): the greatest of late is the least of late, turned. The plain mathematics. Conditions: none.
-/
import Derived.Test.YtcdhnokhklnkoaaWinSt
namespace Go.Proofs.Ytcdhnokhklnkoaa
open Go.RowKit

def turnT (x : Tri) : Tri := ⟨x.l, x.t0, 18446744073709551615 - x.v0, x.t1, 18446744073709551615 - x.v1, x.t2, 18446744073709551615 - x.v2⟩
section
variable {win t v u : Int} {x : Tri}
theorem turn_beats : beatsT false (18446744073709551615 - v) (18446744073709551615 - u) ↔ beatsT true v u := by
  unfold beatsT
  simp
theorem turn_rank : rankT false win (turnT x) t (18446744073709551615 - v) = turnT (rankT true win x t v) := by
  by_cases hA : beatsT true v x.v0 ∨ win < t - x.t2
  · exact (if_pos (hA.imp (fun h => turn_beats.2 h) id)).trans (congrArg turnT (if_pos hA : rankT true win x t v = _)).symm
  · have hA' : ¬ (beatsT false (18446744073709551615 - v) (turnT x).v0 ∨ win < t - (turnT x).t2) := fun h => hA (h.imp (fun h => turn_beats.1 h) id)
    by_cases h1 : beatsT true v x.v1
    · rw [show rankT true win x t v = twoT x t v from (if_neg hA).trans (if_pos h1)]
      exact (if_neg hA').trans (if_pos (turn_beats.2 h1))
    · have h1' : ¬ beatsT false (18446744073709551615 - v) (turnT x).v1 := fun h => h1 (turn_beats.1 h)
      by_cases h2 : beatsT true v x.v2
      · rw [show rankT true win x t v = oneT x t v from (if_neg hA).trans ((if_neg h1).trans (if_pos h2))]
        exact (if_neg hA').trans ((if_neg h1').trans (if_pos (turn_beats.2 h2)))
      · have h2' : ¬ beatsT false (18446744073709551615 - v) (turnT x).v2 := fun h => h2 (turn_beats.1 h)
        rw [show rankT true win x t v = x from (if_neg hA).trans ((if_neg h1).trans (if_neg h2))]
        exact (if_neg hA').trans ((if_neg h1').trans (if_neg h2'))
theorem turn_age : ageT win (turnT x) t (18446744073709551615 - v) = turnT (ageT win x t v) := by
  by_cases hA : win < t - x.t0
  · by_cases hB : win < t - x.t1
    · rw [show ageT win x t v = shiftT (shiftT x t v) t v from (if_pos hA).trans (if_pos hB)]
      exact (if_pos hA).trans (if_pos hB)
    · rw [show ageT win x t v = shiftT x t v from (if_pos hA).trans (if_neg hB)]
      exact (if_pos hA).trans (if_neg hB)
  · by_cases hB : x.t1 = x.t0 ∧ win / 4 < t - x.t0
    · rw [show ageT win x t v = twoT x t v from (if_neg hA).trans (if_pos hB)]
      exact (if_neg hA).trans (if_pos hB)
    · by_cases hC : x.t2 = x.t1 ∧ win / 2 < t - x.t0
      · rw [show ageT win x t v = oneT x t v from (if_neg hA).trans ((if_neg hB).trans (if_pos hC))]
        exact (if_neg hA).trans ((if_neg hB).trans (if_pos hC))
      · rw [show ageT win x t v = x from (if_neg hA).trans ((if_neg hB).trans (if_neg hC))]
        exact (if_neg hA).trans ((if_neg hB).trans (if_neg hC))
theorem turn_upd : updT false win (turnT x) t (18446744073709551615 - v) = turnT (updT true win x t v) := by
  unfold updT
  rw [show (turnT x).l = x.l from rfl, show lastT (turnT x) (topT t x.l) = turnT (lastT x (topT t x.l)) from rfl, turn_rank, turn_age]
theorem turn_new : newT 0 = turnT (newT 18446744073709551615) := rfl
end
end Go.Proofs.Ytcdhnokhklnkoaa
