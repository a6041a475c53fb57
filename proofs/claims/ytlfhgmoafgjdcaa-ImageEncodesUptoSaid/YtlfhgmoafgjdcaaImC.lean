/- The carrier of images that gave up is caught. -/
import Derived.Test.YtlfhgmoafgjdcaaImV
import Derived.Test.YtlfhgmoafgjdcaaWrD
namespace Go.Proofs.Ytlfhgmoafgjdcaa
open Go.ChangeShapes Go.WideShapes Go.ChangeAt Go.RowKit
set_option linter.unusedVariables false
set_option linter.unusedSimpArgs false

set_option maxRecDepth 100000 in
theorem idle_c (w : World) :
    CallsD Try.prog 49 #[] .returning w fun e u' w' => e = .returned (.tuple #[]) ∧ u' = .returning ∧ w' = w := by
  refine callsD_of_wpS Try.func49 rfl fun c₀ cs hu => ?_
  apply wpS_seq
  apply wpS_region
  simp [wpOpsS, go_sem, recoverD, hu, Try.ntmps49, Exit.thenS]
  refine wpS_of_wp ?_
  have he : ∀ w, (binOp .eql 20 .nilIface .nilIface).run Try.prog w = .ok (.bool true) w := fun w => rfl
  go_wp2
  cases c₀
  simp_all [bodyPostS, results, Try.results49]
set_option maxRecDepth 100000 in
theorem gone_c (w : World) :
    CallsD Try.prog 49 #[] (.panicking [unfitP]) w fun e u' w' => e = .returned (.tuple #[]) ∧ u' = .panicking [{ unfitP with recovered := true }] ∧ w' = w := by
  refine callsD_of_wpS Try.func49 rfl fun c₀ cs hu => ?_
  apply wpS_seq
  apply wpS_region
  simp [wpOpsS, go_sem, recoverD, hu, Try.ntmps49, Exit.thenS, unfitP]
  refine wpS_of_wp ?_
  have he : ∀ w, (binOp .eql 20 (.iface 98 (.agg #[])) .nilIface).run Try.prog w = .ok (.bool false) w := fun w => rfl
  have he2 : ∀ w, (binOp .eql 20 (.iface 98 (.agg #[])) (.iface 98 (.agg #[]))).run Try.prog w = .ok (.bool true) w := fun w => rfl
  go_wp2
  cases c₀
  simp_all [bodyPostS, results, Try.results49]
set_option maxHeartbeats 4000000 in
set_option maxRecDepth 100000 in
theorem carried_any (c p : Value) (w : World) (P N : World → Prop) (C : Calls Try.prog 50 #[c, p] w fun e w' => (e = .returned (.tuple #[]) ∧ P w') ∨ (e = .panicked [unfitP] ∧ N w')) :
    Calls Try.prog 22 #[c, p] w fun e w' => (e = .returned (.bool true) ∧ P w') ∨ (e = .returned (.bool false) ∧ N w') := by
  replace C := Lib.hid C
  go_enter_defers Try.func22, Try.ntmps22
  go_wp2_with fail
  refine C.out.mono ?_
  rintro e w1 (⟨rfl, h1⟩ | ⟨rfl, h1⟩)
  · replace h1 := Lib.hid h1
    go_wp2_with fail
    refine leaves_cons (f := 49) (args := #[]) (by simp) (by simp [go_sem]) ?_
    refine (idle_c _).mono ?_
    rintro e u' w'' ⟨rfl, rfl, rfl⟩
    simp [Leaves, settle, results, Try.results22, go_sem]
    exact h1.out
  · replace h1 := Lib.hid h1
    go_wp2_with fail
    refine leaves_cons (f := 49) (args := #[]) (by simp) (by simp [go_sem]) ?_
    refine (gone_c _).mono ?_
    rintro e u' w'' ⟨rfl, rfl, rfl⟩
    simp [Leaves, settle, results, Try.results22, go_sem]
    exact h1.out
end Go.Proofs.Ytlfhgmoafgjdcaa
