/- RealAgrees: less is ahead in order, but for noughts and NaN. -/
import Derived.Test.YtpcdeofjadnpbaaRows
import Derived.WalkKit
import Derived.ProofKit
import Derived.OpenShut
import Derived.Test.YtpcdeofjadnpbaaRealD
namespace Go.Proofs.Ytpcdeofjadnpbaa.realAgrees
open Go.ChangeShapes Go.WideShapes Go.ChangeAt Go.RowKit Go.Fl
set_option linter.unusedVariables false      -- a walk need not use every 'w<i>' (that an integer argument fits its kind)

theorem own : ownKnob Try.prog.godebug = none := by kernel_rfl

theorem lt_lit (w : World) : Calls Try.prog 26 #[.int .u64 0, .int .u64 4607182418800017408] w fun e w' => e = .returned (.bool true) ∧ w = w' := by
  have h := less_any 0 4607182418800017408 w
  rw [show ltB 0 4607182418800017408 = true by decide +kernel] at h
  exact h

theorem eqB_self (a : Nat) (ha : a < 18446744073709551616) : eqB a a = decide (¬ INF < a % 9223372036854775808) := by
  rw [eqB_iff a a ha ha, Bool.eq_iff_iff, decide_eq_true_eq, decide_eq_true_eq]; simp
theorem cn_nan_iff (a : Nat) (ha : a < 18446744073709551616) : cn a = 9221120237041090560 ↔ INF < a % 9223372036854775808 := by
  unfold cn INF; split <;> omega
theorem lt_facts (a b : Nat) (ha : a < 18446744073709551616) (hb : b < 18446744073709551616) (h : ltB a b = true) : ordP a b = -1 ∧ ltB b a = false ∧ eqB a b = false := by
  have e : eqB a b = false := by
    unfold ltB at h; unfold eqB; rw [eq_of_beq h]; rfl
  have h0 := h
  rw [ltB_iff a b ha hb] at h
  have h := of_decide_eq_true h
  refine ⟨?_, ?_, e⟩
  · rw [key_lt_ord a b ha hb h.1 h.2.1 e] at h0
    have := of_decide_eq_true h0
    have := ordP_three a b; omega
  · rw [ltB_iff b a hb ha]; exact decide_eq_false (by omega)
theorem ord_facts (a b : Nat) (ha : a < 18446744073709551616) (hb : b < 18446744073709551616) (h : ordP a b = -1) (l : ltB a b = false) : cn b = 9221120237041090560 ∨ (eqB a b = true ∧ (a = 0 ∨ a = 9223372036854775808) ∧ (b = 0 ∨ b = 9223372036854775808)) := by
  by_cases nb : INF < b % 9223372036854775808
  · exact Or.inl (cn_nan nb)
  · right
    by_cases na : INF < a % 9223372036854775808
    · exfalso
      have r1 : rankP a = 18444492273895866368 := by unfold rankP; rw [cn_nan na]; decide
      have r2 : rankP b < 18444492273895866368 := by unfold rankP; rw [cn_num nb]; unfold INF at nb; split <;> omega
      unfold ordP at h; rw [r1] at h; (repeat' split at h) <;> omega
    · cases e : eqB a b with
      | false => rw [key_lt_ord a b ha hb na nb e, decide_eq_false_iff_not] at l; omega
      | true =>
        refine ⟨rfl, ?_⟩
        rw [eqB_iff a b ha hb] at e
        have e := of_decide_eq_true e
        rcases e.2.2 with e | e
        · subst e; exfalso; unfold ordP at h; (repeat' split at h) <;> omega
        · exact e

theorem walk (a0 : Int) (a1 : Int) (w0 : (Lit.int .u64 a0).wf = true) (w1 : (Lit.int .u64 a1).wf = true) (w : World) :
    Calls Try.prog 10 #[.int .u64 a0, .int .u64 a1] w fun e w' => e = .returned (.bool true) ∧ Grown w w' := by
  obtain ⟨a, rfl, ha⟩ := nat_of_wf w0
  obtain ⟨b, rfl, hb⟩ := nat_of_wf w1
  clear w0 w1
  have es : (eqB a a == (((cn a : Nat) : Int) != 9221120237041090560)) = true := by
    rw [eqB_self a ha, beq_iff_eq, Bool.eq_iff_iff, decide_eq_true_eq, bne_iff_ne, ← cn_nan_iff a ha]; omega
  cases l : ltB a b with
  | true =>
    obtain ⟨o, l2, e1⟩ := lt_facts a b ha hb l
    have c1 := less_any a b w
    have c2 := order_any a b w ha hb
    have c3 := less_any b a w
    have c4 := equal_any a b w
    rw [l] at c1; rw [o] at c2; rw [l2] at c3; rw [e1] at c4
    have C1 := Lib.hid c1
    have C2 := Lib.hid c2
    have C3 := Lib.hid c3
    have C4 := Lib.hid c4
    clear c1 c2 c3 c4 l o l2 e1
    go_enter Try.func10, Try.ntmps10
    go_wp2_with fail
    refine (C1.out).mono ?_; rintro e w' ⟨rfl, rfl⟩
    go_wp2_with fail
    refine (C2.out).mono ?_; rintro e w' ⟨rfl, rfl⟩
    go_wp2_with fail
    refine (C3.out).mono ?_; rintro e w' ⟨rfl, rfl⟩
    go_wp2_with fail
    refine (C4.out).mono ?_; rintro e w' ⟨rfl, rfl⟩
    go_wp2_with fail
    refine (C2.out).mono ?_; rintro e w' ⟨rfl, rfl⟩
    go_wp2_with fail
    refine (C1.out).mono ?_; rintro e w' ⟨rfl, rfl⟩
    go_wp2_with fail
    refine (equal_any a a _).mono ?_; rintro e w' ⟨rfl, rfl⟩
    go_wp2_with fail
    refine (canon_any a _ ha).mono ?_; rintro e w' ⟨rfl, rfl⟩
    go_wp2_with fail
    refine (lt_lit _).mono ?_; rintro e w' ⟨rfl, rfl⟩
    go_wp2
    go_ret
    exact ⟨rfl, by repeat (first | exact Grown.refl _ | apply grown_drewN | apply Grown.drew | apply Grown.alloc)⟩
  | false =>
    have c1 := less_any a b w
    have c2 := order_any a b w ha hb
    rw [l] at c1
    have C1 := Lib.hid c1
    by_cases o : ordP a b = -1
    · rw [o] at c2
      have C2 := Lib.hid c2
      have f := ord_facts a b ha hb o l
      by_cases nb : cn b = 9221120237041090560
      · have c3 := canon_any b w hb
        rw [nb] at c3
        have C3 : Hid (Calls Try.prog 15 #[.int .u64 (b : Int)] w fun e w' => e = .returned (.int .u64 9221120237041090560) ∧ w = w') := Lib.hid c3
        clear c1 c2 c3 l o f nb
        go_enter Try.func10, Try.ntmps10
        go_wp2_with fail
        refine (C1.out).mono ?_; rintro e w' ⟨rfl, rfl⟩
        go_wp2_with fail
        refine (C2.out).mono ?_; rintro e w' ⟨rfl, rfl⟩
        go_wp2_with fail
        refine (C1.out).mono ?_; rintro e w' ⟨rfl, rfl⟩
        go_wp2_with fail
        refine (C3.out).mono ?_; rintro e w' ⟨rfl, rfl⟩
        go_wp2
        go_ret
        exact ⟨rfl, by repeat (first | exact Grown.refl _ | apply grown_drewN | apply Grown.drew | apply Grown.alloc)⟩
      · have f := f.resolve_left nb
        have c3 := equal_any a b w
        rw [f.1] at c3
        have C3 := Lib.hid c3
        have c4 := rnought_any a w ha
        rw [decide_eq_true f.2.1] at c4
        have C4 := Lib.hid c4
        have c5 := rnought_any b w hb
        rw [decide_eq_true f.2.2] at c5
        have C5 := Lib.hid c5
        have nb2 : (((cn b : Nat) : Int) == 9221120237041090560) = false := by simp; omega
        clear c1 c2 c3 c4 c5 l o f nb
        go_enter Try.func10, Try.ntmps10
        go_wp2_with fail
        refine (C1.out).mono ?_; rintro e w' ⟨rfl, rfl⟩
        go_wp2_with fail
        refine (C2.out).mono ?_; rintro e w' ⟨rfl, rfl⟩
        go_wp2_with fail
        refine (C1.out).mono ?_; rintro e w' ⟨rfl, rfl⟩
        go_wp2_with fail
        refine (canon_any b _ hb).mono ?_; rintro e w' ⟨rfl, rfl⟩
        go_wp2_with fail
        refine (C3.out).mono ?_; rintro e w' ⟨rfl, rfl⟩
        go_wp2_with fail
        refine (C4.out).mono ?_; rintro e w' ⟨rfl, rfl⟩
        go_wp2_with fail
        refine (C5.out).mono ?_; rintro e w' ⟨rfl, rfl⟩
        go_wp2
        go_ret
        exact ⟨rfl, by repeat (first | exact Grown.refl _ | apply grown_drewN | apply Grown.drew | apply Grown.alloc)⟩
    · have C2 := Lib.hid c2
      have o2 : (ordP a b == -1) = false := by simpa using o
      clear c1 c2 l o
      go_enter Try.func10, Try.ntmps10
      go_wp2_with fail
      refine (C1.out).mono ?_; rintro e w' ⟨rfl, rfl⟩
      go_wp2_with fail
      refine (C2.out).mono ?_; rintro e w' ⟨rfl, rfl⟩
      go_wp2_with fail
      refine (equal_any a a _).mono ?_; rintro e w' ⟨rfl, rfl⟩
      go_wp2_with fail
      refine (canon_any a _ ha).mono ?_; rintro e w' ⟨rfl, rfl⟩
      go_wp2_with fail
      refine (lt_lit _).mono ?_; rintro e w' ⟨rfl, rfl⟩
      go_wp2
      go_ret
      exact ⟨rfl, by repeat (first | exact Grown.refl _ | apply grown_drewN | apply Grown.drew | apply Grown.alloc)⟩

set_option maxRecDepth 100000 in
theorem lifted (os : Os) (started : os.Started) (H : Type) (enc : TypeId × Value → H) :
    ReturnsInHanded {} Try.checked os 10 .any (Rows.realAgreesSpec.pre6 enc Try.prog Try.f10 Rows.realAgreesRow.domain false) (Rows.realAgreesSpec.post enc Try.prog Try.f10 false true false false) := by
  refine returnsInHanded_of_change (C := Try.checked) own started (by kernel_rfl) Try.func10
    (ChangeSpec.witness6 (enc := enc) (C := Try.checked) false ⟨#[], #[.int .u64 0, .int .u64 0], []⟩ 8 (by kernel_rfl) (by kernel_rfl) (by kernel_rfl) (by kernel_rfl)) ?_
  intro W base args ds gs before hval0 hW hcnd _
  have hval : ∀ (j : Nat) t v, Try.f10.params[j]? = some t → args[j]? = some v → Value.okWide Try.prog W .any base t v := hval0
  have hW' := hW
  obtain ⟨p, q, hA0, hV, rfl, hfz, hnd⟩ := hW
  have hA : DataW.TrodAll enc Try.prog W 0 (fun _ => true) true Try.f10.params.toList args.toList ds p := hA0
  rw [Try.params10] at hA hval
  obtain ⟨v0, vs0, d0, ds0, p0, q0, hargs, rfl, rfl, h0, r0⟩ := trodAll_cons hA
  obtain ⟨v1, vs1, d1, ds1, p1, q1, rfl, rfl, rfl, h1, r1⟩ := trodAll_cons r0
  obtain ⟨rfl, rfl, rfl⟩ := trodAll_nil r1
  obtain rfl : args = #[v0, v1] := by cases args; simp_all
  obtain ⟨rfl, rfl⟩ := trodVars_none hV
  obtain ⟨a0, rfl, rfl, rfl, w0⟩ := open_int Try.underlying22 (hval 0 22 v0 rfl rfl) h0
  obtain ⟨a1, rfl, rfl, rfl, w1⟩ := open_int Try.underlying22 (hval 1 22 v1 rfl rfl) h1
  clear hA0 hval0
  simp only [List.append_nil] at hW'
  refine (walk a0 a1 w0 w1 W).mono fun e W' ⟨he, hg⟩ => ?_
  subst he
  exact ⟨_, rfl, post_of_same (pa := []) (pv := []) hW' (fun _ _ _ => (trodAll_cons_mk (shut_bool Try.underlying4 _) trodAll_mk0)) (fun sp _ => (trodAll_cons_mk (shut_int Try.underlying22 w0) (trodAll_cons_mk (shut_int Try.underlying22 w1) trodAll_mk0))) (fun _ _ => rfl) rfl
    (hg.frame _) hg.2.1 (ok_one (by kernel_rfl) rfl (okWide_bool_mk Try.underlying4 _))⟩

theorem over : Rows.realAgreesRow.holds Try.pinned (OpenSpec.ofChange Rows.realAgreesSpec) :=
  OpenClaim.holds_of_wide 10 Try.f10 rfl rfl rfl rfl rfl rfl rfl ⟨rfl, rfl, rfl, rfl, rfl⟩ rfl rfl rfl rfl rfl (by kernel_rfl) Try.func10 (by kernel_rfl)
    (of_decide_eq_true (by kernel_rfl)) (by unfold Func.isWrapper; first | (rw [if_pos (by decide +kernel)]; kernel_rfl) | (rw [if_neg (by decide +kernel)]; exact ⟨rfl, rfl⟩))
    (fun os started H enc _ => lifted os started H enc)

/-- the statement -/
theorem proved : Rows.RealAgreesSaid :=
  over
#print axioms proved
end Go.Proofs.Ytpcdeofjadnpbaa.realAgrees
