/- The carrier of images that gave up is caught. -/
import Derived.Test.YtcchbbnlcilanaaImV
import Derived.Test.YtcchbbnlcilanaaWrD
namespace Go.Proofs.Ytcchbbnlcilanaa
open Go.ChangeShapes Go.WideShapes Go.ChangeAt Go.RowKit
set_option linter.unusedVariables false
set_option linter.unusedSimpArgs false

set_option maxRecDepth 100000 in
theorem idle_c (w : World) :
    CallsD Try.prog 36 #[] .returning w fun e u' w' => e = .returned (.tuple #[]) ∧ u' = .returning ∧ w' = w := by
  refine callsD_of_wpS Try.func36 rfl fun c₀ cs hu => ?_
  apply wpS_seq
  apply wpS_region
  simp [wpOpsS, go_sem, recoverD, hu, Try.ntmps36, Exit.thenS]
  refine wpS_of_wp ?_
  have he : ∀ w, (binOp .eql 20 .nilIface .nilIface).run Try.prog w = .ok (.bool true) w := fun w => rfl
  go_wp2
  cases c₀
  simp_all [bodyPostS, results, Try.results36]
set_option maxRecDepth 100000 in
theorem gone_c (w : World) :
    CallsD Try.prog 36 #[] (.panicking [unfitP]) w fun e u' w' => e = .returned (.tuple #[]) ∧ u' = .panicking [{ unfitP with recovered := true }] ∧ w' = w := by
  refine callsD_of_wpS Try.func36 rfl fun c₀ cs hu => ?_
  apply wpS_seq
  apply wpS_region
  simp [wpOpsS, go_sem, recoverD, hu, Try.ntmps36, Exit.thenS, unfitP]
  refine wpS_of_wp ?_
  have he : ∀ w, (binOp .eql 20 (.iface 90 (.agg #[])) .nilIface).run Try.prog w = .ok (.bool false) w := fun w => rfl
  have he2 : ∀ w, (binOp .eql 20 (.iface 90 (.agg #[])) (.iface 90 (.agg #[]))).run Try.prog w = .ok (.bool true) w := fun w => rfl
  go_wp2
  cases c₀
  simp_all [bodyPostS, results, Try.results36]
set_option maxHeartbeats 4000000 in
set_option maxRecDepth 100000 in
theorem carried_any (c p : Value) (w : World) (P N : World → Prop) (C : Calls Try.prog 37 #[c, p] w fun e w' => (e = .returned (.tuple #[]) ∧ P w') ∨ (e = .panicked [unfitP] ∧ N w')) :
    Calls Try.prog 18 #[c, p] w fun e w' => (e = .returned (.bool true) ∧ P w') ∨ (e = .returned (.bool false) ∧ N w') := by
  replace C := Lib.hid C
  go_enter_defers Try.func18, Try.ntmps18
  go_wp2_with fail
  refine C.out.mono ?_
  rintro e w1 (⟨rfl, h1⟩ | ⟨rfl, h1⟩)
  · replace h1 := Lib.hid h1
    go_wp2_with fail
    refine leaves_cons (f := 36) (args := #[]) (by simp) (by simp [go_sem]) ?_
    refine (idle_c _).mono ?_
    rintro e u' w'' ⟨rfl, rfl, rfl⟩
    simp [Leaves, settle, results, Try.results18, go_sem]
    exact h1.out
  · replace h1 := Lib.hid h1
    go_wp2_with fail
    refine leaves_cons (f := 36) (args := #[]) (by simp) (by simp [go_sem]) ?_
    refine (gone_c _).mono ?_
    rintro e u' w'' ⟨rfl, rfl, rfl⟩
    simp [Leaves, settle, results, Try.results18, go_sem]
    exact h1.out
end Go.Proofs.Ytcchbbnlcilanaa
