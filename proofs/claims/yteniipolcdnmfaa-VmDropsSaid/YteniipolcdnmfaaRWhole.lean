/- What 'Product' and 'whole' answer in the document's package, as contracts. -/
import Derived.Test.YteniipolcdnmfaaRFloat
namespace Go.Proofs.Yteniipolcdnmfaa
open Go.ChangeShapes Go.WideShapes Go.ChangeAt Go.RowKit Go.Fl

theorem prod_signs (a b : Int) (h : a * b < 0) : (decide (a < 0) != decide (b < 0)) = true := by
  by_cases ha : a < 0 <;> by_cases hb : b < 0
  · have := Int.mul_pos_of_neg_of_neg ha hb; omega
  · rw [decide_eq_true ha, decide_eq_false hb]; rfl
  · rw [decide_eq_false ha, decide_eq_true hb]; rfl
  · have := Int.mul_nonneg (show 0 ≤ a by omega) (show 0 ≤ b by omega); omega

end Go.Proofs.Yteniipolcdnmfaa
