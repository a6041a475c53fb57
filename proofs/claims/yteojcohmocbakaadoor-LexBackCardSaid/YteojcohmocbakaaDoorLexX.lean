/- The fraction that a text begins with, as contracts. -/
import Derived.Test.YteojcohmocbakaaDoorLexY
namespace Go.Proofs.YteojcohmocbakaaDoor
open Go.ChangeShapes Go.WideShapes Go.ChangeAt Go.RowKit
set_option linter.unusedVariables false
set_option linter.unusedSimpArgs false

/-- what stands behind a point that a text begins with; the text, where it begins with none -/
def FracB (s : ByteArray) : ByteArray := ⟨(Lib.trimPrefix s.data.toList [46]).toArray⟩
theorem FracB_le (s : ByteArray) : (FracB s).size ≤ s.size := by
  show (Lib.trimPrefix s.data.toList [46]).toArray.size ≤ s.data.size
  unfold Lib.trimPrefix
  split <;> simp
theorem fraction_no (s : ByteArray) (w : World) (hp : Lib.hasPrefix s.data.toList [46] = false) :
    Calls Tryd.prog 43 #[.string s] w fun e w' => e = .returned (.string ⟨#[]⟩) ∧ w = w' := by
  have CC : ∀ w, Calls Tryd.prog 59 #[.string s, .string ⟨#[46]⟩] w fun e w' => e = .returned (.tuple #[.string (FracB s), .bool false]) ∧ w = w' := fun w => by
    have := Tryd.strings_CutPrefix s ⟨#[46]⟩ w
    rw [hp] at this
    exact this.mono fun e w' ⟨h1, h2⟩ => ⟨h1, h2.symm⟩
  generalize FracB s = d at *
  replace CC := Lib.hid CC
  clear hp
  go_enter Tryd.func43, Tryd.ntmps43
  go_wp2_with (go_at_call 59; refine (CC.out _).mono ?_; rintro e w1 ⟨rfl, rfl⟩)
  go_ret
  exact ⟨rfl, rfl⟩
theorem fraction_yes (s : ByteArray) (r : Nat) (w : World) (hs : s.size ≤ 9223372036854775807) (hp : Lib.hasPrefix s.data.toList [46] = true) (hr : RunIs digC (FracB s) r) :
    Calls Tryd.prog 43 #[.string s] w fun e w' => e = .returned (.string ((FracB s).extract 0 r)) ∧ w = w' := by
  have CC : ∀ w, Calls Tryd.prog 59 #[.string s, .string ⟨#[46]⟩] w fun e w' => e = .returned (.tuple #[.string (FracB s), .bool true]) ∧ w = w' := fun w => by
    have := Tryd.strings_CutPrefix s ⟨#[46]⟩ w
    rw [hp] at this
    exact this.mono fun e w' ⟨h1, h2⟩ => ⟨h1, h2.symm⟩
  have hl := FracB_le s
  have hr0 := hr.1
  have CS := fun w => span_digit (FracB s) r w (by omega) hr
  generalize FracB s = d at *
  replace CC := Lib.hid CC
  replace CS := Lib.hid CS
  replace hr := Lib.hid hr
  clear hp
  have r0 : (0 : Int) ≤ (r : Int) := by omega
  have r1 : (r : Int) ≤ (d.size : Int) := by omega
  go_enter Tryd.func43, Tryd.ntmps43
  go_wp2_with (first | (go_at_call 59; refine (CC.out _).mono ?_; rintro e w1 ⟨rfl, rfl⟩) | (go_at_call 16; refine (CS.out _).mono ?_; rintro e w1 ⟨rfl, rfl⟩))
  go_ret
  exact ⟨rfl, rfl⟩
end Go.Proofs.YteojcohmocbakaaDoor
