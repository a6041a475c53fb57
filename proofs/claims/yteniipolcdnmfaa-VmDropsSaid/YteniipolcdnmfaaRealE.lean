/- What OfInt answers, in package real and in the document's, as contracts, for every whole number. -/
import Derived.Test.YteniipolcdnmfaaRealD
import Derived.LoopTactic
import Derived.WalkSmall
namespace Go.Proofs.Yteniipolcdnmfaa
open Go.ChangeShapes Go.WideShapes Go.ChangeAt Go.RowKit Go.Fl

theorem ofMag_bound (s : Bool) (m : Nat) (h : m < 18446744073709551616) : ofMag s m % 9223372036854775808 < INF ∧ ofMag s m < 18446744073709551616 := by
  unfold ofMag INF
  by_cases z : m = 0
  · rw [if_pos z]; split <;> omega
  · rw [if_neg z]
    have k := K_bounds m (by omega) h
    have l : m.log2 < 64 := (Nat.log2_lt (by omega)).2 (by simpa using h)
    split <;> omega
theorem cn_ofI (n : Int) (h : n.natAbs < 18446744073709551616) : cn (ofI n) = ofI n := by
  have := (ofMag_bound (decide (n < 0)) n.natAbs h).1
  exact cn_num (by unfold ofI; omega)
theorem ofI_lt (n : Int) (h : n.natAbs < 18446744073709551616) : ofI n < 18446744073709551616 := (ofMag_bound _ _ h).2

theorem ofint_any (n : Int) (w : World) (h1 : -9223372036854775808 ≤ n) (h2 : n ≤ 9223372036854775807) :
    Calls Try.prog 57 #[.int .i64 n] w fun e w' => e = .returned (.int .u64 ((ofI n : Nat) : Int)) ∧ w = w' := by
  have hb : n.natAbs < 18446744073709551616 := by omega
  have c := bitsOf_any (floatOfInt .f64 n) w (by rw [ofI_eq n hb]; exact ofI_lt n hb)
  rw [show cn (floatOfInt .f64 n) = ofI n by rw [ofI_eq n hb, cn_ofI n hb]] at c
  have C := Lib.hid c
  clear c hb h1 h2
  go_enter Try.func57, Try.ntmps57
  go_wp2_with (go_at_call 68; refine C.out.mono ?_; rintro e w' ⟨rfl, rfl⟩)
  go_ret
  exact ⟨rfl, rfl⟩







end Go.Proofs.Yteniipolcdnmfaa
