/- WireNil: of a reader that isn't there there is nothing to be read (a closed sentence). -/
import Derived.Test.YthoknfkldmfdpaaRows
import Derived.WalkKit
import Derived.ProofKit
import Derived.OpenShut
import Derived.ShutString
import Derived.ChangeOld
import Derived.Below
import Derived.Lib.SmallJoins
import Derived.SizedLaws
import Derived.Test.YthoknfkldmfdpaaWrG
import Derived.Test.YthoknfkldmfdpaaWrO
import Derived.Test.YthoknfkldmfdpaaWb
namespace Go.Proofs.Ythoknfkldmfdpaa.wireNil
open Go.ChangeShapes Go.WideShapes Go.ChangeAt Go.RowKit Go.Joins
set_option linter.unusedVariables false
set_option linter.unusedSimpArgs false

theorem own : ownKnob Try.prog.godebug = none := by kernel_rfl
theorem laidOut : laidOutB Try.prog = true := by kernel_rfl

set_option maxHeartbeats 16000000 in
set_option maxRecDepth 100000 in
theorem walk (w : World)  :
    Calls Try.prog 8 #[] w fun e w' => e = .returned (.bool true) ∧ Below w.heap.size w w' := by
  have C0 := Lib.hid (fun w => awake20 w)
  have C1 := Lib.hid (fun w => uint_nil w)
  have C2 := Lib.hid (fun w => int_nil w)
  have C3 := Lib.hid (fun w => upto_nil (-1) 1 w)
  have C4 := Lib.hid (fun w => left_nil w)
  go_enter Try.func8, Try.ntmps8
  go_wp2_with fail
  refine (C1.out _).mono ?_; rintro e u1 ⟨rfl, hb1⟩
  replace hb1 := Lib.hid hb1
  go_wp2_with fail
  refine (C2.out _).mono ?_; rintro e u2 ⟨rfl, hb2⟩
  replace hb2 := Lib.hid (mmore hb1.out hb2)
  clear hb1
  go_wp2_with fail
  refine (C3.out _).mono ?_; rintro e u3 ⟨rfl, hb3⟩
  replace hb3 := Lib.hid (mmore hb2.out hb3)
  clear hb2
  go_wp2_with fail
  refine (C0.out _).mono ?_; rintro e u4 ⟨rfl, hb4⟩
  replace hb4 := Lib.hid (mmore hb3.out hb4)
  clear hb3
  go_wp2_with fail
  refine (C4.out _).mono ?_; rintro e u5 ⟨rfl, rfl⟩
  go_wp2
  go_ret
  exact ⟨rfl, hb4.out⟩

set_option maxRecDepth 100000 in
theorem lifted (os : Os) (started : os.Started) (H : Type) (enc : TypeId × Value → H) :
    ReturnsInHanded {} Try.checked os 8 .any (Rows.wireNilSpec.pre6 enc Try.prog Try.f8 Rows.wireNilRow.domain false) (Rows.wireNilSpec.post enc Try.prog Try.f8 false true false false) := by
  refine returnsInHanded_of_change (C := Try.checked) own started (by kernel_rfl) Try.func8
    (ChangeSpec.witness6 (enc := enc) (C := Try.checked) false ⟨#[], #[], []⟩ 8 (by kernel_rfl) (by kernel_rfl) (by kernel_rfl) (by kernel_rfl)) ?_
  intro W base args ds gs before hval0 hW hcnd _
  have hval : ∀ (j : Nat) t v, Try.f8.params[j]? = some t → args[j]? = some v → Value.okWide Try.prog W .any base t v := hval0
  have hW' := hW
  obtain ⟨p, q, hA0, hV, rfl, hfz, hnd⟩ := hW
  have hA : DataW.TrodAll enc Try.prog W 0 (fun _ => true) true Try.f8.params.toList args.toList ds p := hA0
  rw [Try.params8] at hA hval

  obtain ⟨hargs, rfl, rfl⟩ := trodAll_nil hA
  obtain rfl : args = #[] := by cases args; simp_all
  obtain ⟨rfl, rfl⟩ := trodVars_none hV


  clear hA0 hval0
  refine (walk W ).mono fun e W' ⟨he, bel⟩ => ?_
  subst he
  exact ⟨_, rfl, _, _, _, [], _, [], hW', trodAll_mk1 (shut_bool Try.underlying4 _), trodAll_mk0, rfl, bel.frame _, fun h => by cases h⟩

theorem over : Rows.wireNilRow.holds Try.pinned (OpenSpec.ofChange Rows.wireNilSpec) :=
  OpenClaim.holds_of_wide 8 Try.f8 rfl rfl rfl rfl rfl rfl rfl ⟨rfl, rfl, rfl, rfl, rfl⟩ rfl rfl rfl rfl rfl (by kernel_rfl) Try.func8 (by kernel_rfl)
    (of_decide_eq_true (by kernel_rfl)) (by unfold Func.isWrapper; first | (rw [if_pos (by decide +kernel)]; kernel_rfl) | (rw [if_neg (by decide +kernel)]; exact ⟨rfl, rfl⟩))
    (fun os started H enc _ => lifted os started H enc)

/-- the statement -/
theorem proved : Rows.WireNilSaid :=
  over
#print axioms proved
end Go.Proofs.Ythoknfkldmfdpaa.wireNil
