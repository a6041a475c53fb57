/- What 'float' answers in the document's package, as contracts. -/
import Derived.Test.YteniipolcdnmfaaRLogic
namespace Go.Proofs.Yteniipolcdnmfaa
open Go.ChangeShapes Go.WideShapes Go.ChangeAt Go.RowKit Go.Fl

theorem nan_eqB (b : Nat) (hb : b < 18446744073709551616) : decide (INF < b % 9223372036854775808) = !eqB b b := by
  rw [eqB_iff b b hb hb]
  by_cases h : INF < b % 9223372036854775808
  · rw [decide_eq_true h, decide_eq_false (by omega)]; rfl
  · rw [decide_eq_false h, decide_eq_true ⟨h, h, .inl rfl⟩]; rfl

end Go.Proofs.Yteniipolcdnmfaa
