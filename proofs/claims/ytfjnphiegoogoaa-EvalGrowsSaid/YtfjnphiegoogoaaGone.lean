/- What an operator that gives up comes to in package value: its panic, and Apply's deferred function that makes poison of it, as contracts. -/
import Derived.Test.YtfjnphiegoogoaaSlot
import Derived.Test.YtfjnphiegoogoaaOne
namespace Go.Proofs.Ytfjnphiegoogoaa
open Go.ChangeShapes Go.WideShapes Go.ChangeAt Go.RowKit Go.Fl

/-- what an operator gives up with -/
def outV : Value := .iface 60 (.agg #[])
def outP : PanicEntry := { v := outV, recovered := false }

set_option maxRecDepth 100000 in
theorem gone (g : Nat) (w : World) (x y : Value) (h0 : w.cell? ⟨g, 0, none⟩ = some x) (h1 : w.cell? ⟨g, 1, none⟩ = some y) (h2 : w.frozen? ⟨g, 0, none⟩ = false) (h3 : w.frozen? ⟨g, 1, none⟩ = false) :
    CallsD Try.prog 22 #[.pointer (some ⟨g, 0, none⟩)] (.panicking [outP]) w fun e u' w' =>
      e = .returned (.tuple #[]) ∧ u' = .panicking [{ v := outV, recovered := true }] ∧ w' = (w.setCell ⟨g, 0, none⟩ (.int .i64 0)).setCell ⟨g, 1, none⟩ (.int .u64 0) := by
  refine callsD_of_wpS Try.func22 rfl fun c₀ cs hu => ?_
  apply wpS_seq
  apply wpS_region
  simp [wpOpsS, go_sem, recoverD, hu, Try.ntmps22, Exit.thenS, outP]
  refine wpS_of_wp ?_
  unfold outV
  have he : ∀ w, (binOp .eql 20 (.iface 60 (.agg #[])) (.iface 60 (.agg #[]))).run Try.prog w = .ok (.bool true) w := fun w => rfl
  go_wp2
  cases c₀
  simp_all [bodyPostS, results, Try.results22]
end Go.Proofs.Ytfjnphiegoogoaa
