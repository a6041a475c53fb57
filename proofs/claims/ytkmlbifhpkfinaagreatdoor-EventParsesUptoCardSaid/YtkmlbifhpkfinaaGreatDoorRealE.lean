/- What OfInt answers, in package real and in the document's, as contracts, for every whole number. -/
import Derived.Test.YtkmlbifhpkfinaaGreatDoorRealD
import Derived.LoopTactic
import Derived.WalkSmall
namespace Go.Proofs.YtkmlbifhpkfinaaGreatDoor
open Go.ChangeShapes Go.WideShapes Go.ChangeAt Go.RowKit Go.Fl

theorem ofMag_bound (s : Bool) (m : Nat) (h : m < 18446744073709551616) : ofMag s m % 9223372036854775808 < INF ∧ ofMag s m < 18446744073709551616 := by
  unfold ofMag INF
  by_cases z : m = 0
  · rw [if_pos z]; split <;> omega
  · rw [if_neg z]
    have k := K_bounds m (by omega) h
    have l : m.log2 < 64 := (Nat.log2_lt (by omega)).2 (by simpa using h)
    split <;> omega
theorem cn_ofI (n : Int) (h : n.natAbs < 18446744073709551616) : cn (ofI n) = ofI n := by
  have := (ofMag_bound (decide (n < 0)) n.natAbs h).1
  exact cn_num (by unfold ofI; omega)
theorem ofI_lt (n : Int) (h : n.natAbs < 18446744073709551616) : ofI n < 18446744073709551616 := (ofMag_bound _ _ h).2

end Go.Proofs.YtkmlbifhpkfinaaGreatDoor
