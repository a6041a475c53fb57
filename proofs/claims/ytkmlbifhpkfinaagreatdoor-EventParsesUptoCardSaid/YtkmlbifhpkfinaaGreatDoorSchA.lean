/- 'awake' of the statements on schemas answers true, as a contract. -/
import Derived.Test.YtkmlbifhpkfinaaGreatDoorSchC
import Derived.Test.YtkmlbifhpkfinaaGreatDoorSto
import Derived.Test.YtkmlbifhpkfinaaGreatDoorNameC
namespace Go.Proofs.YtkmlbifhpkfinaaGreatDoor
open Go.ChangeShapes Go.WideShapes Go.ChangeAt Go.RowKit
set_option linter.unusedVariables false
set_option linter.unusedSimpArgs false

def oneT : List ST := [(⟨#[84]⟩, [(⟨#[120]⟩, 1)]), (⟨#[85]⟩, [])]
def oneS : List ByteArray := [⟨#[97, 110, 110]⟩]
theorem one_type : typeOf oneT ⟨#[85]⟩ = 1 := by
  simp [typeOf, place, placeFrom, oneT, ByteArray.toList_eq]
theorem one_attr : attrOf oneT 0 ⟨#[120]⟩ = 0 := by
  simp [attrOf, fieldOf, place, placeFrom, oneT, ByteArray.toList_eq]
theorem one_kind : kindOf oneT 0 0 = 1 := by
  simp [kindOf, oneT]
theorem one_sym : textOf oneS ⟨#[98, 111, 98]⟩ = -1 := by
  simp [textOf, place, placeFrom, oneS, ByteArray.toList_eq]
theorem one_name : NameP ⟨#[97, 95, 49]⟩ := by
  refine ⟨by decide, by decide, fun h => (by decide : letC (97 : Int) = true), fun i h => ?_, ?_⟩
  · match i, h with
    | 0, _ => exact (by decide : okC (97 : Int) = true)
    | 1, _ => exact (by decide : okC (95 : Int) = true)
    | 2, _ => exact (by decide : okC (49 : Int) = true)
    | i + 3, h => exact absurd h (by show ¬ i + 3 < 3; omega)
  · simp [wordB, wordL, ByteArray.toList_eq]

theorem TypesIn.slice {w : World} {v : Value} {ts : List ST} (h : TypesIn w v ts) : ∃ A cap, v = .slice A ts.length cap ∧ TypesAt w A ts := h
theorem SymsIn.slice {w : World} {v : Value} {ss : List ByteArray} (h : SymsIn w v ss) : ∃ A cap, v = .slice A ss.length cap ∧ SymsAt w A ss := by
  obtain ⟨A, cap, e, _, h⟩ := h
  exact ⟨A, cap, e, h⟩
theorem SymsIn.slice2 {w : World} {v : Value} {ss : List ByteArray} (h : SymsIn w v ss) : ∃ A cap, v = .slice A ss.length cap ∧ ss.length ≤ cap ∧ cap ≤ maxLen ∧ SymsAt w A ss := by
  obtain ⟨A, cap, e, ⟨h1, h2⟩, h⟩ := h
  exact ⟨A, cap, e, h1, h2, h⟩

end Go.Proofs.YtkmlbifhpkfinaaGreatDoor
