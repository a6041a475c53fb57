/- Names and words: what both packages answer of them, as contracts. -/
import Derived.Test.YtkmlbifhpkfinaaGreatDoorMem
import Derived.Laws.RangeAny
import Derived.Laws.RangeString
import Derived.LoopTactic
namespace Go.Proofs.YtkmlbifhpkfinaaGreatDoor
open Go.ChangeShapes Go.WideShapes Go.ChangeAt Go.RowKit
set_option linter.unusedVariables false
set_option linter.unusedSimpArgs false

def letC (c : Int) : Bool := decide (97 ≤ c ∧ c ≤ 122) || decide (65 ≤ c ∧ c ≤ 90)
def digC (c : Int) : Bool := decide (48 ≤ c ∧ c ≤ 57)

theorem sret_bool {a b : Bool} (h : a = b) : Ending.returned (.bool a) = .returned (.bool b) := by rw [h]
/-- the words, as bytes -/
def wordL : List (List UInt8) := [[80, 65, 84, 84, 69, 82, 78], [83, 69, 81], [87, 72, 69, 82, 69], [83, 84, 82, 65, 84, 69, 71, 89], [87, 73, 84, 72, 73, 78], [80, 65, 82, 84, 73, 84, 73, 79, 78], [66, 89], [83, 84, 82, 73, 67, 84], [78, 69, 88, 84], [65, 78, 89], [65, 78, 68], [79, 82], [78, 79, 84], [84, 82, 85, 69], [70, 65, 76, 83, 69], [84, 73, 77, 69], [82, 69, 65, 76], [73, 83, 78, 65, 78], [67, 79, 85, 78, 84], [70, 73, 82, 83, 84], [76, 65, 83, 84], [83, 85, 77], [77, 73, 78], [77, 65, 88], [77, 69, 65, 78]]
def wordB (s : ByteArray) : Bool := wordL.any fun l => s.toList == l

theorem letter_any (c : Int) (w : World) :
    Calls Tryz.prog 116 #[.int .i32 c] w fun e w' => e = .returned (.bool (letC c)) ∧ w = w' := by
  go_enter Tryz.func116, Tryz.ntmps116
  go_wp2
  all_goals go_ret
  all_goals refine ⟨sret_bool ?_, rfl⟩
  all_goals unfold letC
  all_goals (first | rfl | (rw [Bool.eq_iff_iff]; simp only [Bool.or_eq_true, decide_eq_true_eq, Bool.true_eq, Bool.false_eq_true, false_iff, iff_false, true_iff, iff_true, not_or, not_and]; omega))
theorem digit_any (c : Int) (w : World) :
    Calls Tryz.prog 117 #[.int .i32 c] w fun e w' => e = .returned (.bool (digC c)) ∧ w = w' := by
  go_enter Tryz.func117, Tryz.ntmps117
  go_wp2
  all_goals go_ret
  all_goals refine ⟨sret_bool ?_, rfl⟩
  all_goals unfold digC
  all_goals (first | rfl | (rw [Bool.eq_iff_iff]; simp only [Bool.or_eq_true, decide_eq_true_eq, Bool.true_eq, Bool.false_eq_true, false_iff, iff_false, true_iff, iff_true, not_or, not_and]; omega))
theorem rletter_any (c : Int) (w : World) :
    Calls Tryz.prog 97 #[.int .u8 c] w fun e w' => e = .returned (.bool (letC c)) ∧ w = w' := by
  go_enter Tryz.func97, Tryz.ntmps97
  go_wp2
  all_goals go_ret
  all_goals refine ⟨sret_bool ?_, rfl⟩
  all_goals unfold letC
  all_goals (first | rfl | (rw [Bool.eq_iff_iff]; simp only [Bool.or_eq_true, decide_eq_true_eq, Bool.true_eq, Bool.false_eq_true, false_iff, iff_false, true_iff, iff_true, not_or, not_and]; omega))
theorem rdigit_any (c : Int) (w : World) :
    Calls Tryz.prog 46 #[.int .u8 c] w fun e w' => e = .returned (.bool (digC c)) ∧ w = w' := by
  go_enter Tryz.func46, Tryz.ntmps46
  go_wp2
  all_goals go_ret
  all_goals refine ⟨sret_bool ?_, rfl⟩
  all_goals unfold digC
  all_goals (first | rfl | (rw [Bool.eq_iff_iff]; simp only [Bool.or_eq_true, decide_eq_true_eq, Bool.true_eq, Bool.false_eq_true, false_iff, iff_false, true_iff, iff_true, not_or, not_and]; omega))

set_option maxHeartbeats 4000000 in
set_option maxRecDepth 100000 in
theorem word_any (s : ByteArray) (w : World) :
    Calls Tryz.prog 118 #[.string s] w fun e w' => e = .returned (.bool (wordB s)) ∧ w = w' := by
  go_enter Tryz.func118, Tryz.ntmps118
  go_wp2
  all_goals first
    | (exfalso; simp_all; done)
    | (go_ret; exact ⟨sret_bool (by simp [wordB, wordL, *]), rfl⟩)

/-- the document's list of the words -/
theorem words_any (w : World) :
    Calls Tryz.prog 115 #[] w fun e w' => e = .returned (.slice (some ⟨w.heap.size, 0, none⟩) 25 25) ∧ w' = w.alloc (.cells (wordL.map fun l => Value.string ⟨l.toArray⟩).toArray 9) := by
  go_enter Tryz.func115, Tryz.ntmps115
  go_wp2
  go_ret
  exact ⟨rfl, rfl⟩
end Go.Proofs.YtkmlbifhpkfinaaGreatDoor
