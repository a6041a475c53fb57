/- What Same and Order of values answer, in package value and in the document's, as contracts, for every input. -/
import Derived.Test.YteniipolcdnmfaaVal
import Derived.Deep.RegionHeld3
import Derived.Deep.RegionWith
import Derived.Deep.CutRange
import Derived.Deep.DeepCutAuto
import Derived.Deep.QuietTactic
import Derived.BigQuiet
namespace Go.Proofs.Yteniipolcdnmfaa
open Go.ChangeShapes Go.WideShapes Go.ChangeAt Go.RowKit Go.Fl



/-- two structs of two cells each, stored anew -/
theorem four_cells {w : World} {g : Nat} {u0 u1 u2 u3 : Value} (v0 v1 v2 v3 : Value) (h0 : w.cell? ⟨g, 0, none⟩ = some u0) (h1 : w.cell? ⟨g, 1, none⟩ = some u1) (h2 : w.cell? ⟨g + 1, 0, none⟩ = some u2) (h3 : w.cell? ⟨g + 1, 1, none⟩ = some u3) :
    ((((w.setCell ⟨g, 0, none⟩ v0).setCell ⟨g, 1, none⟩ v1).setCell ⟨g + 1, 0, none⟩ v2).setCell ⟨g + 1, 1, none⟩ v3).cell? ⟨g, 0, none⟩ = some v0 ∧
    ((((w.setCell ⟨g, 0, none⟩ v0).setCell ⟨g, 1, none⟩ v1).setCell ⟨g + 1, 0, none⟩ v2).setCell ⟨g + 1, 1, none⟩ v3).cell? ⟨g, 1, none⟩ = some v1 ∧
    ((((w.setCell ⟨g, 0, none⟩ v0).setCell ⟨g, 1, none⟩ v1).setCell ⟨g + 1, 0, none⟩ v2).setCell ⟨g + 1, 1, none⟩ v3).cell? ⟨g + 1, 0, none⟩ = some v2 ∧
    ((((w.setCell ⟨g, 0, none⟩ v0).setCell ⟨g, 1, none⟩ v1).setCell ⟨g + 1, 0, none⟩ v2).setCell ⟨g + 1, 1, none⟩ v3).cell? ⟨g + 1, 1, none⟩ = some v3 := by
  refine ⟨?_, ?_, ?_, ?_⟩ <;> simp [go_sem, h0, h1, h2, h3]

theorem keep5 {w0 w w1 : World} {a0 a1 a2 a3 : Addr} {v0 v1 v2 v3 : Value} (hb : Below w.heap.size w w1) (h : w.cell? a0 = some v0 ∧ w.cell? a1 = some v1 ∧ w.cell? a2 = some v2 ∧ w.cell? a3 = some v3 ∧ Below w0.heap.size w0 w) :
    w1.cell? a0 = some v0 ∧ w1.cell? a1 = some v1 ∧ w1.cell? a2 = some v2 ∧ w1.cell? a3 = some v3 ∧ Below w0.heap.size w0 w1 :=
  ⟨cell_later hb h.1, cell_later hb h.2.1, cell_later hb h.2.2.1, cell_later hb h.2.2.2.1, h.2.2.2.2.trans (hb.mono h.2.2.2.2.size)⟩

theorem clB_lt (k : Int) {b : Nat} (hb : b < 18446744073709551616) : clB k b < 18446744073709551616 := by
  have := cn_lt hb
  unfold clB; (repeat' split) <;> omega

def sameB (k : Int) (b : Nat) (l : Int) (c : Nat) : Bool := decide (clK k b = clK l c ∧ clB k b = clB l c)


/-- the order of two values -/
def vordP (k : Int) (b : Nat) (l : Int) (c : Nat) : Int :=
  if clK k b ≠ clK l c then cmpP (clK k b) (clK l c) else if clK k b = 1 then cmpP (wrap64 (clB k b)) (wrap64 (clB l c)) else if clK k b = 4 then ordP (clB k b) (clB l c) else cmpP (clB k b) (clB l c)

end Go.Proofs.Yteniipolcdnmfaa
