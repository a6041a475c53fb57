/- Which kinds may be, which events fit them, as contracts. -/
import Derived.Test.YtkmlbifhpkfinaaGreatDoorEvK
import Derived.Test.YtkmlbifhpkfinaaGreatDoorAll
import Derived.Deep.RegionHeld3
import Derived.Deep.RegionWith
import Derived.Deep.CutRange
import Derived.Deep.DeepCutAuto
import Derived.Deep.QuietTactic
import Derived.BigQuiet
namespace Go.Proofs.YtkmlbifhpkfinaaGreatDoor
open Go.ChangeShapes Go.WideShapes Go.ChangeAt Go.RowKit
set_option linter.unusedVariables false
set_option linter.unusedSimpArgs false

def OkRow (ks : List Int) : Prop := ks.length ≤ 8 ∧ ∀ (i : Nat) (k : Int), ks[i]? = some k → 1 ≤ k ∧ k < 5
def PossP (kss : List (List Int)) (n : Int) : Prop := (kss.length : Int) ≤ 16 ∧ 0 ≤ n ∧ n ≤ 64 ∧ ∀ (i : Nat) (ks : List Int), kss[i]? = some ks → OkRow ks
def PossTo (kss : List (List Int)) (k : Nat) : Prop := ∀ (i : Nat) (ks : List Int), i < k → kss[i]? = some ks → OkRow ks
def RowTo (ks : List Int) (j : Nat) : Prop := ∀ (i : Nat) (k : Int), i < j → ks[i]? = some k → 1 ≤ k ∧ k < 5
theorem RowTo.step {ks : List Int} {j : Nat} {k : Int} (h : RowTo ks j) (hk : ks[j]? = some k) (h1 : 1 ≤ k ∧ k < 5) : RowTo ks (j + 1) := fun i x hi hx => by
  by_cases c : i < j
  · exact h i x c hx
  · obtain rfl : i = j := by omega
    rw [hk] at hx
    injection hx with hx
    subst hx
    exact h1
theorem PossTo.step {kss : List (List Int)} {j : Nat} {ks : List Int} (h : PossTo kss j) (hk : kss[j]? = some ks) (h1 : OkRow ks) : PossTo kss (j + 1) := fun i x hi hx => by
  by_cases c : i < j
  · exact h i x c hx
  · obtain rfl : i = j := by omega
    rw [hk] at hx
    injection hx with hx
    subst hx
    exact h1
theorem RowTo.all {ks : List Int} (h : RowTo ks ks.length) : ∀ (i : Nat) (k : Int), ks[i]? = some k → 1 ≤ k ∧ k < 5 := fun i k hi => h i k (List.getElem?_eq_some_iff.1 hi).1 hi
theorem PossTo.all {kss : List (List Int)} (h : PossTo kss kss.length) : ∀ (i : Nat) (ks : List Int), kss[i]? = some ks → OkRow ks := fun i k hi => h i k (List.getElem?_eq_some_iff.1 hi).1 hi
/-- an answer of yes or no -/
def Says (p : Prop) (w : World) (e : Ending) (w' : World) : Prop := ∃ q : Bool, e = .returned (.bool q) ∧ (q = true ↔ p) ∧ Below w.heap.size w w'
theorem Says.yes {p : Prop} {w w' : World} {e : Ending} (he : e = .returned (.bool true)) (h : p) (hb : Below w.heap.size w w') : Says p w e w' := ⟨true, he, by simp [h], hb⟩
theorem Says.no {p : Prop} {w w' : World} {e : Ending} (he : e = .returned (.bool false)) (h : ¬ p) (hb : Below w.heap.size w w') : Says p w e w' := ⟨false, he, by simp [h], hb⟩

end Go.Proofs.YtkmlbifhpkfinaaGreatDoor
