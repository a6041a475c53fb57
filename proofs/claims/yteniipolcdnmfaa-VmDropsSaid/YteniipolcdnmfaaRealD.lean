/- What Min, Max and OfInt answer, in package real and in the document's, as contracts, for every input. -/
import Derived.Test.YteniipolcdnmfaaRealC
import Derived.LoopTactic
namespace Go.Proofs.Yteniipolcdnmfaa
open Go.ChangeShapes Go.WideShapes Go.ChangeAt Go.RowKit Go.Fl

/-- the first (the last) of two, or NaN -/
def pickP (a b : Nat) (last : Bool) : Nat := if INF < a % 9223372036854775808 ∨ INF < b % 9223372036854775808 then 9221120237041090560 else if last then (if ordP a b = 1 then a else b) else (if ordP a b = -1 then a else b)

theorem ordP_three (a b : Nat) : ordP a b = -1 ∨ ordP a b = 0 ∨ ordP a b = 1 := by unfold ordP; (repeat' split) <;> simp
theorem ordP_zero (a b : Nat) (ha : a < 18446744073709551616) (hb : b < 18446744073709551616) : ordP a b = 0 ↔ cn a = cn b := by
  rw [← rankP_eq a b ha hb]; unfold ordP; (repeat' split) <;> omega






theorem nat_of_wf {z : Int} (h : (Lit.int .u64 z).wf = true) : ∃ n : Nat, z = n ∧ n < 18446744073709551616 := by
  have h2 : IntKind.u64.min ≤ z ∧ z ≤ IntKind.u64.max := by simpa [Lit.wf] using h
  change (0 : Int) ≤ z ∧ z ≤ 18446744073709551615 at h2
  exact ⟨z.toNat, by omega, by omega⟩

theorem i64_of_wf {z : Int} (h : (Lit.int .i64 z).wf = true) : -9223372036854775808 ≤ z ∧ z ≤ 9223372036854775807 := by
  have h2 : IntKind.i64.min ≤ z ∧ z ≤ IntKind.i64.max := by simpa [Lit.wf] using h
  change (-9223372036854775808 : Int) ≤ z ∧ z ≤ 9223372036854775807 at h2
  exact h2

theorem grown_drewN {W w' : World} (h : Grown W w') (k : Nat) : Grown W (w'.drewN k) := h

theorem ordP_swap (a b : Nat) : ordP b a = - ordP a b := by unfold ordP; (repeat' split) <;> omega
theorem ordP_trans (a b c : Nat) (h1 : ordP a b ≤ 0) (h2 : ordP b c ≤ 0) : ordP a c ≤ 0 := by
  unfold ordP at *; (repeat' split at h1) <;> (repeat' split at h2) <;> (repeat' split) <;> omega

end Go.Proofs.Yteniipolcdnmfaa
