/- RealRounds: whole numbers up to 2^52 are floats: their sums are the sums' floats, and they compare as the numbers do. -/
import Derived.Test.YtpcdeofjadnpbabRows
import Derived.WalkKit
import Derived.ProofKit
import Derived.OpenShut
import Derived.Test.YtpcdeofjadnpbabRealE
namespace Go.Proofs.Ytpcdeofjadnpbab.realRounds
open Go.ChangeShapes Go.WideShapes Go.ChangeAt Go.RowKit Go.Fl
set_option linter.unusedVariables false      -- a walk need not use every 'w<i>' (that an integer argument fits its kind)

theorem own : ownKnob Try.prog.godebug = none := by kernel_rfl

theorem int_lit (w : World) : Calls Try.prog 14 #[.int .i64 1] w fun e w' => e = .returned (.int .u64 4607182418800017408) ∧ w = w' := by
  have h := ofint_any 1 w (by decide) (by decide)
  rw [show ofI 1 = 4607182418800017408 by decide +kernel] at h
  exact h

theorem sum_ints (n m : Int) (hn : n.natAbs ≤ 4503599627370496) (hm : m.natAbs ≤ 4503599627370496) : res (Ieee.double.add (ofI n) (ofI m)) = ofI (n + m) := by
  rw [add_ints n m hn hm]
  exact cn_ofI (n + m) (by omega)
theorem lt_ints (n m : Int) (hn : n.natAbs ≤ 4503599627370496) (hm : m.natAbs ≤ 4503599627370496) : ltB (ofI n) (ofI m) = decide (n < m) := by
  unfold ltB
  rw [order_ints n m hn hm]
  by_cases h : n < m
  · rw [decide_eq_true h]; simp [compare, compareOfLessAndEq, h]
  · rw [decide_eq_false h]; simp only [compare, compareOfLessAndEq, h, if_false]; split <;> rfl

theorem walk (a0 : Int) (a1 : Int) (w0 : (Lit.int .i64 a0).wf = true) (w1 : (Lit.int .i64 a1).wf = true) (w : World) :
    Calls Try.prog 3 #[.int .i64 a0, .int .i64 a1] w fun e w' => e = .returned (.bool true) ∧ Grown w w' := by
  obtain ⟨h1, h2⟩ := i64_of_wf w0
  obtain ⟨h3, h4⟩ := i64_of_wf w1
  clear w0 w1
  by_cases g : a0 < -4503599627370496 ∨ 4503599627370496 < a0 ∨ a1 < -4503599627370496 ∨ 4503599627370496 < a1
  · have G := Lib.hid g
    clear g
    go_enter Try.func3, Try.ntmps3
    go_wp2_with (go_at_call 14; refine (int_lit _).mono ?_; rintro e w' ⟨rfl, rfl⟩)
    all_goals first | (go_ret; exact ⟨rfl, Grown.refl _⟩) | (exfalso; have g := G.out; omega)
  · have c1 := Lib.hid (fun w => ofint_any a0 w h1 h2)
    have c2 := Lib.hid (fun w => ofint_any a1 w h3 h4)
    have c3 := Lib.hid (fun w => ofint_any (a0 + a1) w (by omega) (by omega))
    have e1 := Lib.hid (sum_ints a0 a1 (by omega) (by omega))
    have e2 := Lib.hid (lt_ints a0 a1 (by omega) (by omega))
    have g1 : -4503599627370496 ≤ a0 := by omega
    have g2 : a0 ≤ 4503599627370496 := by omega
    have g3 : -4503599627370496 ≤ a1 := by omega
    have g4 : a1 ≤ 4503599627370496 := by omega
    clear g
    go_enter Try.func3, Try.ntmps3
    go_wp2_with fail
    refine (c1.out _).mono ?_; rintro e w' ⟨rfl, rfl⟩
    go_wp2_with fail
    refine (c2.out _).mono ?_; rintro e w' ⟨rfl, rfl⟩
    go_wp2_with fail
    refine (add_any _ _ _).mono ?_; rintro e w' ⟨rfl, k1, rfl⟩
    rw [e1.out]
    go_wp2_with fail
    refine (c3.out _).mono ?_; rintro e w' ⟨rfl, rfl⟩
    go_wp2_with fail
    refine (c1.out _).mono ?_; rintro e w' ⟨rfl, rfl⟩
    go_wp2_with fail
    refine (c2.out _).mono ?_; rintro e w' ⟨rfl, rfl⟩
    go_wp2_with fail
    refine (less_any _ _ _).mono ?_; rintro e w' ⟨rfl, rfl⟩
    rw [e2.out]
    go_wp2_with fail
    refine (int_lit _).mono ?_; rintro e w' ⟨rfl, rfl⟩
    go_wp2
    go_ret
    exact ⟨rfl, by repeat (first | exact Grown.refl _ | apply grown_drewN | apply Grown.drew | apply Grown.alloc)⟩

set_option maxRecDepth 100000 in
theorem lifted (os : Os) (started : os.Started) (H : Type) (enc : TypeId × Value → H) :
    ReturnsInHanded {} Try.checked os 3 .any (Rows.realRoundsSpec.pre6 enc Try.prog Try.f3 Rows.realRoundsRow.domain false) (Rows.realRoundsSpec.post enc Try.prog Try.f3 false true false false) := by
  refine returnsInHanded_of_change (C := Try.checked) own started (by kernel_rfl) Try.func3
    (ChangeSpec.witness6 (enc := enc) (C := Try.checked) false ⟨#[], #[.int .i64 0, .int .i64 0], []⟩ 8 (by kernel_rfl) (by kernel_rfl) (by kernel_rfl) (by kernel_rfl)) ?_
  intro W base args ds gs before hval0 hW hcnd _
  have hval : ∀ (j : Nat) t v, Try.f3.params[j]? = some t → args[j]? = some v → Value.okWide Try.prog W .any base t v := hval0
  have hW' := hW
  obtain ⟨p, q, hA0, hV, rfl, hfz, hnd⟩ := hW
  have hA : DataW.TrodAll enc Try.prog W 0 (fun _ => true) true Try.f3.params.toList args.toList ds p := hA0
  rw [Try.params3] at hA hval
  obtain ⟨v0, vs0, d0, ds0, p0, q0, hargs, rfl, rfl, h0, r0⟩ := trodAll_cons hA
  obtain ⟨v1, vs1, d1, ds1, p1, q1, rfl, rfl, rfl, h1, r1⟩ := trodAll_cons r0
  obtain ⟨rfl, rfl, rfl⟩ := trodAll_nil r1
  obtain rfl : args = #[v0, v1] := by cases args; simp_all
  obtain ⟨rfl, rfl⟩ := trodVars_none hV
  obtain ⟨a0, rfl, rfl, rfl, w0⟩ := open_int Try.underlying2 (hval 0 2 v0 rfl rfl) h0
  obtain ⟨a1, rfl, rfl, rfl, w1⟩ := open_int Try.underlying2 (hval 1 2 v1 rfl rfl) h1
  clear hA0 hval0
  simp only [List.append_nil] at hW'
  refine (walk a0 a1 w0 w1 W).mono fun e W' ⟨he, hg⟩ => ?_
  subst he
  exact ⟨_, rfl, post_of_same (pa := []) (pv := []) hW' (fun _ _ _ => (trodAll_cons_mk (shut_bool Try.underlying4 _) trodAll_mk0)) (fun sp _ => (trodAll_cons_mk (shut_int Try.underlying2 w0) (trodAll_cons_mk (shut_int Try.underlying2 w1) trodAll_mk0))) (fun _ _ => rfl) rfl
    (hg.frame _) hg.2.1 (ok_one (by kernel_rfl) rfl (okWide_bool_mk Try.underlying4 _))⟩

theorem over : Rows.realRoundsRow.holds Try.pinned (OpenSpec.ofChange Rows.realRoundsSpec) :=
  OpenClaim.holds_of_wide 3 Try.f3 rfl rfl rfl rfl rfl rfl rfl ⟨rfl, rfl, rfl, rfl, rfl⟩ rfl rfl rfl rfl rfl (by kernel_rfl) Try.func3 (by kernel_rfl)
    (of_decide_eq_true (by kernel_rfl)) (by unfold Func.isWrapper; first | (rw [if_pos (by decide +kernel)]; kernel_rfl) | (rw [if_neg (by decide +kernel)]; exact ⟨rfl, rfl⟩))
    (fun os started H enc _ => lifted os started H enc)

/-- the statement -/
theorem proved : Rows.RealRoundsSaid :=
  over
#print axioms proved
end Go.Proofs.Ytpcdeofjadnpbab.realRounds
