/- What Order of values answers in the document's package, as a contract, for every input. -/
import Derived.Test.YteniipolcdnmfaaValB
namespace Go.Proofs.Yteniipolcdnmfaa
open Go.ChangeShapes Go.WideShapes Go.ChangeAt Go.RowKit Go.Fl

theorem clB_small (k : Int) (b : Nat) (h1 : clK k b ≠ 1) (h4 : clK k b ≠ 4) : clB k b ≤ 63 := by
  unfold clB
  unfold clK at h1 h4
  (repeat' split at h1) <;> (repeat' split) <;> omega

/-- the order of two values, as the document reckons it -/
theorem vordP_doc (k l : Int) (b c : Nat) : vordP k b l c = if clK k b = 4 ∧ clK l c = 4 then ordP (clB k b) (clB l c) else if clK k b = clK l c then cmpP (wrap64 (clB k b)) (wrap64 (clB l c)) else cmpP (clK k b) (clK l c) := by
  unfold vordP
  by_cases e : clK k b = clK l c
  · rw [if_neg (by simpa using e)]
    by_cases k1 : clK k b = 1
    · rw [if_pos k1, if_neg (by omega), if_pos e]
    · by_cases k4 : clK k b = 4
      · rw [if_neg k1, if_pos k4, if_pos ⟨k4, by omega⟩]
      · rw [if_neg k1, if_neg k4, if_neg (by omega), if_pos e]
        have a := clB_small k b k1 k4
        have d := clB_small l c (by omega) (by omega)
        rw [show wrap64 (clB k b : Int) = (clB k b : Int) by unfold wrap64; omega, show wrap64 (clB l c : Int) = (clB l c : Int) by unfold wrap64; omega]
  · rw [if_pos e, if_neg (by omega), if_neg e]

end Go.Proofs.Yteniipolcdnmfaa
