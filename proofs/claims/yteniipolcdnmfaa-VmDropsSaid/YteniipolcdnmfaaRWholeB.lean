/- What 'whole' answers in the document's package, as contracts. -/
import Derived.Test.YteniipolcdnmfaaRWhole
namespace Go.Proofs.Yteniipolcdnmfaa
open Go.ChangeShapes Go.WideShapes Go.ChangeAt Go.RowKit Go.Fl

theorem below1s (w : World) (o : Obj) (x y : Value) : Below w.heap.size w (((w.alloc o).setCell ⟨w.heap.size, 0, none⟩ x).setCell ⟨w.heap.size, 1, none⟩ y) :=
  ((below1 w o).setCell (p := ⟨w.heap.size, 0, none⟩) (Nat.le_refl _) _).setCell (p := ⟨w.heap.size, 1, none⟩) (Nat.le_refl _) _

end Go.Proofs.Yteniipolcdnmfaa
